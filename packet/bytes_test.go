package packet_test

import (
	"bytes"
	"encoding/hex"
	"math/rand"
	"testing"

	"sectime/api"
	"sectime/packet"
)

func checkEncode(t *testing.T, h api.Header, want []byte) {
	t.Helper()
	if b, e := packet.Encode(h); e != api.OK || !bytes.Equal(b, want) {
		t.Fatalf("Encode of %+v is %x and %v, want %x", h, b, e, want)
	}
}

func checkDecode(t *testing.T, b []byte, want api.Header, rest []byte) {
	t.Helper()
	if h, got, e := packet.Decode(b); e != api.OK || h != want || !bytes.Equal(got, rest) {
		t.Fatalf("Decode of %x is %+v, %x and %v, want %+v and %x", b, h, got, e, want, rest)
	}
}

func checkRefused(t *testing.T, b []byte, want api.Errno) {
	t.Helper()
	if h, rest, e := packet.Decode(b); e != want || h != (api.Header{}) || len(rest) != 0 {
		t.Fatalf("Decode of %d bytes is %+v, %x and %v, want %v", len(b), h, rest, e, want)
	}
}

func TestKnownBytes(t *testing.T) {
	tail := "81020304" + "05060708" + "f90a0b0c" + "8112131415161718" + "2122232425262728" + "f132333435363738" + "4142434445464748"
	for _, c := range []struct {
		change func(h *api.Header)
		head   string
	}{
		{func(h *api.Header) {}, "5e82fe11"},
		{func(h *api.Header) { h.Leap, h.Version, h.Mode = 0, 4, 0 }, "2082fe11"},
		{func(h *api.Header) { h.Leap, h.Version, h.Mode = 3, 4, 7 }, "e782fe11"},
		{func(h *api.Header) { h.Leap, h.Version, h.Mode = 2, 3, 1 }, "9982fe11"},
		{func(h *api.Header) { h.Stratum = 255 }, "5efffe11"},
		{func(h *api.Header) { h.Poll, h.Precision = -128, 127 }, "5e82807f"},
		{func(h *api.Header) { h.Poll, h.Precision = 127, -128 }, "5e827f80"},
		{func(h *api.Header) { h.Poll, h.Precision = -1, -1 }, "5e82ffff"},
		{func(h *api.Header) { h.Poll, h.Precision = 0, -20 }, "5e8200ec"},
	} {
		h := sample()
		c.change(&h)
		b, err := hex.DecodeString(c.head + tail)
		if err != nil || len(b) != 48 {
			t.Fatal(c.head, err)
		}
		checkEncode(t, h, b)
		checkDecode(t, b, h, nil)
	}
}

// Every header has its bytes, from which Decode finds it again, whatever is behind them.
func TestDecodeUndoesEncode(t *testing.T) {
	r := rand.New(rand.NewSource(17))
	for _, h := range headers() {
		b := standardBytes(h)
		checkEncode(t, h, b)
		for _, size := range []int{0, 1, 4, 48, 100, api.MaxPacket - 48} {
			rest := make([]byte, size)
			r.Read(rest)
			checkDecode(t, append(bytes.Clone(b), rest...), h, rest)
		}
	}
}

// Of what Decode returns Encode is the beginning of the bytes: all values of each byte, among others that are all 0, all 255 or random.
func TestEncodeUndoesDecode(t *testing.T) {
	r := rand.New(rand.NewSource(18))
	for round := range 6 {
		b := make([]byte, 60)
		switch round {
		case 0:
		case 1:
			b = bytes.Repeat([]byte{255}, 60)
		default:
			r.Read(b)
		}
		b[0] = byte(8 * (3 + round%2))
		for place := range b {
			kept := b[place]
			for value := range 256 {
				b[place] = byte(value)
				checkBothWays(t, b)
			}
			b[place] = kept
		}
	}
}

func checkBothWays(t *testing.T, b []byte) {
	t.Helper()
	want, known := standardHeader(b[:48])
	if !known {
		checkRefused(t, b, api.ErrForm)
		return
	}
	checkDecode(t, b, want, b[48:])
	checkEncode(t, want, b[:48])
}

func TestEncodeErrors(t *testing.T) {
	for _, h := range invalid() {
		if b, e := packet.Encode(h); e != api.ErrRange || len(b) != 0 {
			t.Fatalf("Encode of %+v is %x and %v, want ErrRange", h, b, e)
		}
	}
}

// All lengths around both limits, with every version: a wrong length is the first error.
func TestDecodeErrors(t *testing.T) {
	for _, size := range []int{0, 1, 2, 46, 47, 48, 49, 1279, 1280, 1281, 1282, 65535, 65536, 1 << 20} {
		for version := range 8 {
			b := bytes.Repeat([]byte{0x5a}, size)
			if size > 0 {
				b[0] = byte(0xc7 | version<<3)
			}
			switch {
			case size < 48:
				checkRefused(t, b, api.ErrShort)
			case size > 1280:
				checkRefused(t, b, api.ErrLong)
			default:
				checkBothWays(t, b)
			}
		}
	}
	checkRefused(t, nil, api.ErrShort)
}

func TestAllLengths(t *testing.T) {
	b := append(standardBytes(sample()), bytes.Repeat([]byte{1, 2, 3}, 500)...)
	for size := range b {
		switch {
		case size < 48:
			checkRefused(t, b[:size], api.ErrShort)
		case size > 1280:
			checkRefused(t, b[:size], api.ErrLong)
		default:
			checkDecode(t, b[:size], sample(), b[48:size])
		}
	}
}

func spoil(b []byte) {
	b = b[:cap(b)]
	for k := range b {
		b[k] ^= 0xff
	}
}

// Results are new, arguments stay as they are, and what lies behind an argument has no part in the result.
func TestMemory(t *testing.T) {
	room := append(standardBytes(sample()), bytes.Repeat([]byte{7}, 200)...)
	kept := bytes.Clone(room)
	for range 2 {
		for _, size := range []int{48, 49, 80} {
			_, rest, e := packet.Decode(room[:size])
			if e != api.OK || !bytes.Equal(rest, kept[48:size]) {
				t.Fatalf("Decode of %d bytes returns %x and %v", size, rest, e)
			}
			spoil(rest)
			if !bytes.Equal(room, kept) {
				t.Fatalf("Decode of %d bytes shares memory with its argument, or changes it", size)
			}
		}
		packet.Decode(room[:47])
		room[0] = 0
		packet.Decode(room[:48])
		room[0] = kept[0]
		if !bytes.Equal(room, kept) {
			t.Fatal("Decode changes bytes that it refuses")
		}
		b, _ := packet.Encode(sample())
		spoil(b)
		checkEncode(t, sample(), kept[:48])
	}
}
