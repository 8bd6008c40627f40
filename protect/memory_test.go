package protect_test

import (
	"bytes"
	"slices"
	"testing"

	"sectime/api"
	"sectime/packet"
	"sectime/protect"
)

// spoil changes all the memory of bytes, so that whatever shares it shows.
func spoil(b []byte) {
	b = b[:cap(b)]
	for k := range b {
		b[k] ^= 0xff
	}
}

// copied is the same list in other memory.
func copied(l []api.Field) []api.Field {
	var all []api.Field
	for _, f := range l {
		all = append(all, api.Field{Type: f.Type, Data: bytes.Clone(f.Data)})
	}
	return all
}

// Arguments are the beginnings of longer memory, and stay as they are with what is behind them.
func TestMemoryOfPackets(t *testing.T) {
	long, secret, nonce := key(), filled(6, 100), filled(9, 100)
	data := filled(5, 100)
	list := []api.Field{{Type: 1, Data: data[:3]}, {Type: 2, Data: data[3:20]}, {Type: 3, Data: data[20:40]}}
	hidden := []api.Field{{Type: 7, Data: secret[:40]}, {Type: 8, Data: secret[40:41]}, {Type: 9}}
	roomy := append(long, filled(3, 30)...)
	p := api.Packet{Head: packet.Ask(5), Plain: list[:2], Secret: hidden[:2]}
	plain := api.Packet{Head: packet.Ask(5), Plain: list[:2]}
	want, _ := standardProtect(key(), api.Packet{Head: p.Head, Plain: copied(p.Plain), Secret: copied(p.Secret)}, filled(9, 100)[:18])
	bare, _ := standardBare(plain)
	for range 2 {
		b, e := protect.Protect(roomy[:32], p, nonce[:18])
		if e != api.OK || !bytes.Equal(b, want) {
			t.Fatalf("Protect is %x and %v, want %x", b, e, want)
		}
		spoil(b)
		b, e = protect.Bare(plain)
		if e != api.OK || !bytes.Equal(b, bare) {
			t.Fatalf("Bare is %x and %v, want %x", b, e, bare)
		}
		spoil(b)
		if !bytes.Equal(data, filled(5, 100)) || !bytes.Equal(secret, filled(6, 100)) || !bytes.Equal(nonce, filled(9, 100)) || !bytes.Equal(roomy, slices.Concat(key(), filled(3, 30))) {
			t.Fatal("an argument shares memory with the result, or is changed")
		}
		if list[2].Type != 3 || hidden[2].Type != 9 {
			t.Fatal("what is behind the fields is changed")
		}
	}
}

// Fields are in memory of their own, and have none of the field that protects.
func TestMemoryOfBytes(t *testing.T) {
	p := api.Packet{Head: packet.Ask(5), Plain: fields(1, 20, 12, 0), Secret: fields(7, 30, 12, 0), Guarded: true}
	room := append(protected(t, p, filled(9, 18)), filled(7, 100)...)
	size := len(room) - 100
	kept := bytes.Clone(room)
	for _, c := range []struct {
		name  string
		parse func(b []byte) (api.Packet, api.Errno)
	}{{"Read", protect.Read}, {"Open", func(b []byte) (api.Packet, api.Errno) { return protect.Open(key(), b) }}} {
		want, _ := c.parse(bytes.Clone(kept[:size]))
		for range 2 {
			got, e := c.parse(room[:size])
			if e != api.OK || !samePacket(got, want) {
				t.Fatalf("%s is %v and %v, want %v", c.name, got, e, want)
			}
			checkSeparate(t, c.name, got, want)
			if !bytes.Equal(room, kept) {
				t.Fatalf("%s shares memory with its argument, or changes it", c.name)
			}
		}
	}
	got, _ := protect.Open(key(), room[:size])
	for _, f := range got.Plain[:cap(got.Plain)] {
		if f.Type == api.ExtAuth {
			t.Error("behind the plain fields there is the one that protects")
		}
	}
}

// checkSeparate spoils the data of p one after the other, while the later ones stay what they are.
func checkSeparate(t *testing.T, name string, p, want api.Packet) {
	t.Helper()
	all, others := slices.Concat(p.Plain, p.Secret), slices.Concat(want.Plain, want.Secret)
	for k := range all {
		if !bytes.Equal(all[k].Data, others[k].Data) {
			t.Fatalf("the data %d of %s share memory with earlier ones", k, name)
		}
		spoil(all[k].Data)
	}
}

// Bytes and keys that are refused stay as they are too.
func TestMemoryOfRefusedBytes(t *testing.T) {
	b := protected(t, api.Packet{Head: packet.Ask(5), Secret: fields(7, 30)}, filled(9, 18))
	b[len(b)-1] ^= 1
	kept, k := bytes.Clone(b), key()
	if _, e := protect.Open(k, b); e != api.ErrAuth {
		t.Errorf("Open returns %v, want ErrAuth", e)
	}
	protect.Open(k, b[:60])
	protect.Read(b[:60])
	sizes := []int{32, 104, 1280}
	protect.Length(sizes[:2], sizes)
	if !bytes.Equal(b, kept) || !bytes.Equal(k, key()) || !slices.Equal(sizes, []int{32, 104, 1280}) {
		t.Error("an argument that is refused is changed")
	}
}
