package kdf_test

import (
	"bytes"
	"crypto/hkdf"
	"crypto/sha256"
	"math"
	"strings"
	"testing"

	"sectime/api"
	"sectime/kdf"
	"sectime/octets"
)

const most = 8160 // bytes that Expand returns

// count returns the bytes from first to last.
func count(first, last byte) []byte {
	var b []byte
	for x := int(first); x <= int(last); x++ {
		b = append(b, byte(x))
	}
	return b
}

// expanded is Expand of the library.
func expanded(t *testing.T, key, info []byte, n int) []byte {
	t.Helper()
	b, err := hkdf.Expand(sha256.New, key, string(info), n)
	if err != nil {
		t.Fatal(err)
	}
	return b
}

// The test cases of RFC 5869.
func TestKnownKeys(t *testing.T) {
	short := bytes.Repeat([]byte{0x0b}, 22)
	for k, c := range []struct {
		salt, secret, info []byte
		key, want          string
	}{
		{count(0, 12), short, count(0xf0, 0xf9), "077709362c2e32df0ddc3f0dc47bba6390b6c73bb50f9c3122ec844ad7c2b3e5", "3cb25f25faacd57a90434f64d0362f2a2d2d0a90cf1a5a4c5db02d56ecc4c5bf34007208d5b887185865"},
		{count(0x60, 0xaf), count(0, 0x4f), count(0xb0, 0xff), "06a6b88c5853361a06104c9ceb35b45cef760014904671014a193f40c15fc244", "b11e398dc80327a1c8e7f78c596a49344f012eda2d4efad8a050cc4c19afa97c59045a99cac7827271cb41c65e590e09da3275600c2f09b8367793a9aca3db71cc30c58179ec3e87c14c01d5c1f3434f1d87"},
		{nil, short, nil, "19ef24a32c717b167f33a91d6f648bdf96596776afdb6377ac434c1c293ccb04", "8da4e775a563c18f715f802a063c5a31b8a11f5c5ee1879ec3454e5f3c738d2d9d201395faa4b61a96c8"},
	} {
		key := kdf.Extract(c.salt, c.secret)
		if got := octets.Hex(key); got != c.key {
			t.Errorf("case %d: Extract is %s, want %s", k+1, got, c.key)
		}
		if b, e := kdf.Expand(key, c.info, len(c.want)/2); e != api.OK || octets.Hex(b) != c.want {
			t.Errorf("case %d: Expand is %x and %v, want %s", k+1, b, e, c.want)
		}
		if b, e := kdf.Derive(c.salt, c.secret, c.info, len(c.want)/2); e != api.OK || octets.Hex(b) != c.want {
			t.Errorf("case %d: Derive is %x and %v, want %s", k+1, b, e, c.want)
		}
	}
}

func TestExtract(t *testing.T) {
	sizes := []int{0, 1, 16, 32, 63, 64, 65, 200}
	for _, s := range sizes {
		for _, n := range sizes {
			salt, secret := message(3, s), message(90, n)
			want, err := hkdf.Extract(sha256.New, secret, salt)
			if err != nil {
				t.Fatal(err)
			}
			if got := kdf.Extract(salt, secret); !bytes.Equal(got, want) || !bytes.Equal(got, kdf.Mac(salt, secret)) {
				t.Errorf("Extract of a salt of %d and a secret of %d bytes is %x, want %x", s, n, got, want)
			}
		}
	}
	secret := message(90, 40)
	want := kdf.Extract(make([]byte, 32), secret)
	for _, salt := range [][]byte{nil, {}} {
		if got := kdf.Extract(salt, secret); !bytes.Equal(got, want) {
			t.Errorf("Extract without a salt is %x, want that with 32 zeros, %x", got, want)
		}
	}
}

// Keys and infos of several lengths: the parts go over from one to the next, and the last one may be cut.
func TestExpand(t *testing.T) {
	for _, c := range []struct{ key, info []byte }{
		{nil, nil}, {nil, []byte{1}}, {[]byte{1}, nil}, {[]byte{}, []byte{}},
		{message(3, 32), message(90, 10)}, {message(3, 64), message(90, 64)}, {message(3, 65), message(90, 200)},
	} {
		for n := range 131 {
			got, e := kdf.Expand(c.key, c.info, n)
			if want := expanded(t, c.key, c.info, n); e != api.OK || !bytes.Equal(got, want) {
				t.Errorf("Expand of a key of %d and an info of %d bytes to %d bytes is %x and %v, want %x", len(c.key), len(c.info), n, got, e, want)
			}
		}
	}
}

// What Expand returns for n bytes is the beginning of what it returns for more, and each part is what the chapter says.
func TestExpandToTheEnd(t *testing.T) {
	key, info := message(3, 32), message(90, 20)
	all, e := kdf.Expand(key, info, most)
	if e != api.OK || !bytes.Equal(all, expanded(t, key, info, most)) {
		t.Fatalf("Expand to %d bytes is %x and %v", most, all, e)
	}
	for n := 0; n <= most; n += 51 {
		if b, e := kdf.Expand(key, info, n); e != api.OK || !bytes.Equal(b, all[:n]) {
			t.Errorf("Expand to %d bytes is not the beginning of that to %d: %x and %v", n, most, b, e)
		}
	}
	for n := most - 33; n <= most; n++ {
		if b, e := kdf.Expand(key, info, n); e != api.OK || !bytes.Equal(b, all[:n]) {
			t.Errorf("Expand to %d bytes is not the beginning of that to %d: %x and %v", n, most, b, e)
		}
	}
	var part []byte
	for i := 1; i <= 255; i++ {
		part = standard(key, octets.Join(part, info, []byte{byte(i)}))
		if got := all[32*(i-1) : 32*i]; !bytes.Equal(got, part) {
			t.Errorf("part %d is %x, want %x", i, got, part)
		}
	}
}

func TestLengthsOutOfRange(t *testing.T) {
	for _, n := range []int{-1, -2, -32, -most, math.MinInt, most + 1, most + 32, 1 << 32, 1<<32 + 1, math.MaxInt} {
		for _, key := range [][]byte{nil, message(3, 32)} {
			if b, e := kdf.Expand(key, message(90, 10), n); e != api.ErrRange || len(b) != 0 {
				t.Errorf("Expand to %d bytes is %x and %v, want nothing and ErrRange", n, b, e)
			}
			if b, e := kdf.Derive(key, key, message(90, 10), n); e != api.ErrRange || len(b) != 0 {
				t.Errorf("Derive of %d bytes is %x and %v, want nothing and ErrRange", n, b, e)
			}
		}
	}
}

func TestDerive(t *testing.T) {
	sizes := []int{0, 1, 32, 65}
	for _, s := range sizes {
		for _, c := range sizes {
			for _, i := range sizes {
				salt, secret, info := message(3, s), message(90, c), message(170, i)
				key, err := hkdf.Extract(sha256.New, secret, salt)
				if err != nil {
					t.Fatal(err)
				}
				for _, n := range []int{0, 1, 16, 32, 33, 64, 100} {
					want := expanded(t, key, info, n)
					if got, e := kdf.Derive(salt, secret, info, n); e != api.OK || !bytes.Equal(got, want) {
						t.Errorf("Derive of %d bytes from %d, %d and %d bytes is %x and %v, want %x", n, s, c, i, got, e, want)
					}
				}
			}
		}
	}
	if b, e := kdf.Derive(nil, nil, nil, most); e != api.OK || len(b) != most {
		t.Errorf("Derive returns %d bytes and %v, want all %d", len(b), e, most)
	}
}

func TestLabel(t *testing.T) {
	for _, c := range []struct {
		prefix, name string
		context      []byte
	}{
		{"", "", nil},
		{"", "", []byte{}},
		{"pre", "name", []byte("ctx")},
		{"pre", "", nil},
		{"", "name", []byte{0}},
		{"a\x00b", "\x00", message(0, 64)},
		{"\xff\xfe", "é\x80", message(0, 1000)},
		{strings.Repeat("p", 300), strings.Repeat("n", 300), message(0, 32)},
	} {
		sum := sha256.Sum256(c.context)
		want := []byte(c.prefix + "\x00" + c.name + "\x00" + string(sum[:]))
		if got := kdf.Label(c.prefix, c.name, c.context); !bytes.Equal(got, want) {
			t.Errorf("Label(%q, %q, %x) is %x, want %x", c.prefix, c.name, c.context, got, want)
		}
	}
}

// Results are new, arguments stay as they are, and what lies behind an argument has no part in the result.
func TestMemory(t *testing.T) {
	for _, c := range []struct {
		name   string
		result func(l [3][]byte) []byte
	}{
		{"Mac", func(l [3][]byte) []byte { return kdf.Mac(l[0], l[1]) }},
		{"Extract", func(l [3][]byte) []byte { return kdf.Extract(l[0], l[1]) }},
		{"Expand to a part of a part", func(l [3][]byte) []byte { b, _ := kdf.Expand(l[0], l[1], 20); return b }},
		{"Expand to parts", func(l [3][]byte) []byte { b, _ := kdf.Expand(l[0], l[1], 70); return b }},
		{"Derive", func(l [3][]byte) []byte { b, _ := kdf.Derive(l[0], l[1], l[2], 70); return b }},
		{"Label", func(l [3][]byte) []byte { return kdf.Label("prefix", "name", l[0]) }},
	} {
		for _, size := range []int{0, 1, 32, 63, 64, 65, 150} {
			var exact, roomy, rooms [3][]byte
			for k := range rooms {
				rooms[k] = message(byte(50*k), size+200)
				roomy[k] = rooms[k][:size]
				exact[k] = bytes.Clone(roomy[k])
			}
			want := bytes.Clone(c.result(exact))
			got := c.result(roomy)
			if !bytes.Equal(got, want) {
				t.Errorf("%s of %d bytes is %x, and %x with room behind them", c.name, size, want, got)
			}
			spoil(got)
			for k := range rooms {
				if !bytes.Equal(rooms[k], message(byte(50*k), size+200)) {
					t.Errorf("%s of %d bytes shares memory with argument %d, or changes it", c.name, size, k)
				}
			}
			if again := c.result(roomy); !bytes.Equal(again, want) {
				t.Errorf("%s of %d bytes is %x at first, and then %x", c.name, size, want, again)
			}
		}
	}
}

// spoil changes all the memory of a list, so that whatever shares it shows.
func spoil(b []byte) {
	b = b[:cap(b)]
	for k := range b {
		b[k] ^= 0xff
	}
}
