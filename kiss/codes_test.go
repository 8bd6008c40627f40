package kiss_test

import (
	"math"
	"math/rand"
	"strings"
	"testing"

	"sectime/api"
	"sectime/kiss"
)

func checkCode(t *testing.T, name string) {
	t.Helper()
	want, wanted := standardCode(name)
	if got, e := kiss.Code(name); got != want || e != wanted {
		t.Fatalf("Code of %q is %x and %v, want %x and %v", name, got, e, want, wanted)
	}
}

func checkName(t *testing.T, refid uint32) {
	t.Helper()
	if got, want := kiss.Name(refid), standardName(refid); got != want {
		t.Fatalf("Name of %x is %q, want %q", refid, got, want)
	}
}

func TestKnownCodes(t *testing.T) {
	for _, c := range []struct {
		name  string
		refid uint32
	}{
		{"DENY", 0x44454e59},
		{"RSTR", 0x52535452},
		{"RATE", 0x52415445},
		{"NTSN", 0x4e54534e},
	} {
		if got, e := kiss.Code(c.name); got != c.refid || e != api.OK {
			t.Errorf("Code of %s is %x and %v, want %x", c.name, got, e, c.refid)
		}
		if got := kiss.Name(c.refid); got != c.name {
			t.Errorf("Name of %x is %q, want %s", c.refid, got, c.name)
		}
	}
}

func TestNoCodes(t *testing.T) {
	for _, name := range append(noCodes(), strings.Repeat("DENY", 1<<18)) {
		if got, e := kiss.Code(name); got != 0 || e != api.ErrName {
			t.Errorf("Code of %.20q is %x and %v, want none", name, got, e)
		}
	}
}

// Each byte of a code counts, with each of its values.
func TestChangedCodes(t *testing.T) {
	for _, code := range codes() {
		for k := range code {
			for x := range 256 {
				name := code[:k] + string([]byte{byte(x)}) + code[k+1:]
				checkCode(t, name)
				checkName(t, uint32(name[0])<<24|uint32(name[1])<<16|uint32(name[2])<<8|uint32(name[3]))
			}
		}
	}
}

func TestNames(t *testing.T) {
	l := []uint32{0, 1, 0x494e4954, 0x53544550, 0x64656e79, math.MaxUint32}
	for _, code := range codes() {
		refid, e := kiss.Code(code)
		if e != api.OK || kiss.Name(refid) != code {
			t.Fatal(code, refid, e)
		}
		// The same bytes with the least significant one first, and moved by a byte, are no code.
		l = append(l, refid-1, refid+1, ^refid, refid>>8, refid<<8, refid>>24|refid<<8, refid>>24|refid>>8&0xff00|refid<<8&0xff0000|refid<<24)
		for bit := range 32 {
			l = append(l, refid^1<<bit)
		}
	}
	for _, refid := range l {
		if got := kiss.Name(refid); got != "" {
			t.Errorf("Name of %x is %q, want none", refid, got)
		}
	}
	r := rand.New(rand.NewSource(25))
	for range 100000 {
		checkName(t, r.Uint32())
	}
}
