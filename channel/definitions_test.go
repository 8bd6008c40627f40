package channel_test

import (
	"bytes"
	"crypto/hkdf"
	"crypto/sha256"
	"encoding/binary"
	"encoding/hex"
	"math/rand"
	"slices"
	"testing"

	"sectime/aead"
	"sectime/api"
)

// The definitions of the chapter, with the library's HKDF and numbers in bytes, and layer 6.

const most = 1 << 40 // records of one way

// counted are so many bytes from first on.
func counted(first, size int) []byte {
	b := make([]byte, size)
	for k := range b {
		b[k] = byte(first + k)
	}
	return b
}

func randomBytes(random *rand.Rand, size int) []byte {
	b := make([]byte, size)
	random.Read(b)
	return b
}

func unhex(t *testing.T, text string) []byte {
	t.Helper()
	b, err := hex.DecodeString(text)
	if err != nil {
		t.Fatal(err)
	}
	return b
}

func standardExpand(t *testing.T, key []byte, info string, n int) []byte {
	t.Helper()
	b, err := hkdf.Expand(sha256.New, key, info, n)
	if err != nil {
		t.Fatal(err)
	}
	return b
}

func standardExtract(t *testing.T, salt, secret []byte) []byte {
	t.Helper()
	b, err := hkdf.Extract(sha256.New, secret, salt)
	if err != nil {
		t.Fatal(err)
	}
	return b
}

// standardEnd is an end of the channel with this secret.
func standardEnd(t *testing.T, client bool, secret []byte) api.Channel {
	t.Helper()
	c := api.Channel{Client: client, Secret: secret}
	c.SendKey, c.ReceiveKey = standardExpand(t, secret, "sectime up", 32), standardExpand(t, secret, "sectime down", 32)
	if !client {
		c.SendKey, c.ReceiveKey = c.ReceiveKey, c.SendKey
	}
	return c
}

func standardBegin(t *testing.T, client bool, secret, hello []byte) (api.Channel, api.Errno) {
	t.Helper()
	if len(secret) < 16 || len(secret) > 65535 {
		return api.Channel{}, api.ErrKey
	}
	salt := sha256.Sum256(hello)
	return standardEnd(t, client, standardExtract(t, salt[:], secret)), api.OK
}

func standardValid(t *testing.T, c api.Channel) bool {
	t.Helper()
	if len(c.Secret) != 32 || len(c.SendKey) != 32 || len(c.ReceiveKey) != 32 {
		return false
	}
	want := standardEnd(t, c.Client, c.Secret)
	want.Sent, want.Received = c.Sent, c.Received
	return c.Sent >= 0 && c.Sent <= most && c.Received >= 0 && c.Received <= most && sameChannel(c, want)
}

func sameChannel(a, b api.Channel) bool {
	return a.Client == b.Client && bytes.Equal(a.Secret, b.Secret) && bytes.Equal(a.SendKey, b.SendKey) && bytes.Equal(a.ReceiveKey, b.ReceiveKey) && a.Sent == b.Sent && a.Received == b.Received
}

// cloned is the same channel in other memory.
func cloned(c api.Channel) api.Channel {
	c.Secret, c.SendKey, c.ReceiveKey = bytes.Clone(c.Secret), bytes.Clone(c.SendKey), bytes.Clone(c.ReceiveKey)
	return c
}

// at is a channel with these numbers of records.
func at(c api.Channel, sent, received int) api.Channel {
	c.Sent, c.Received = sent, received
	return c
}

// standardRecord is the record with this number of records before it and with any first bytes.
func standardRecord(t *testing.T, key []byte, count int, head, b []byte) []byte {
	t.Helper()
	sealed, e := aead.Seal(key, [][]byte{binary.BigEndian.AppendUint64(nil, uint64(count)), head}, b)
	if e != api.OK {
		t.Fatalf("Seal returns %v", e)
	}
	return slices.Concat(head, sealed)
}

// head is what stands before so many sealed bytes.
func head(kind, sealed int) []byte {
	return []byte{byte(kind), byte(sealed >> 8), byte(sealed)}
}

// sent is what Send returns.
type sent struct {
	c      api.Channel
	record []byte
	e      api.Errno
}

func (s sent) same(other sent) bool {
	return sameChannel(s.c, other.c) && bytes.Equal(s.record, other.record) && s.e == other.e
}

func standardSend(t *testing.T, c api.Channel, kind int, b []byte) sent {
	t.Helper()
	switch {
	case !standardValid(t, c):
		return sent{e: api.ErrForm}
	case kind < 0 || kind > 255:
		return sent{e: api.ErrRange}
	case len(b) > 16384:
		return sent{e: api.ErrLong}
	case c.Sent == most:
		return sent{e: api.ErrState}
	}
	return sent{at(c, c.Sent+1, c.Received), standardRecord(t, c.SendKey, c.Sent, head(kind, len(b)+16), b), api.OK}
}

// received is what Receive returns.
type received struct {
	c    api.Channel
	kind int
	b    []byte
	e    api.Errno
}

func (r received) same(other received) bool {
	return sameChannel(r.c, other.c) && r.kind == other.kind && bytes.Equal(r.b, other.b) && r.e == other.e
}

func standardReceive(t *testing.T, c api.Channel, record []byte) received {
	t.Helper()
	switch {
	case !standardValid(t, c):
		return received{e: api.ErrForm}
	case len(record) < 3 || len(record)-3 < int(binary.BigEndian.Uint16(record[1:])):
		return received{e: api.ErrShort}
	case len(record)-3 > int(binary.BigEndian.Uint16(record[1:])) || len(record)-3 > 16400:
		return received{e: api.ErrLong}
	case c.Received == most:
		return received{e: api.ErrState}
	}
	b, e := aead.Open(c.ReceiveKey, [][]byte{binary.BigEndian.AppendUint64(nil, uint64(c.Received)), record[:3]}, record[3:])
	if e != api.OK {
		return received{e: api.ErrAuth}
	}
	return received{at(c, c.Sent, c.Received+1), int(record[0]), b, api.OK}
}

func standardExport(t *testing.T, c api.Channel, label string, context []byte, n int) ([]byte, api.Errno) {
	t.Helper()
	if !standardValid(t, c) {
		return nil, api.ErrForm
	}
	if n < 0 || n > 8160 {
		return nil, api.ErrRange
	}
	sum := sha256.Sum256(context)
	return standardExpand(t, c.Secret, "sectime export\x00"+label+"\x00"+string(sum[:]), n), api.OK
}

func standardRenew(t *testing.T, c api.Channel, fresh []byte) (api.Channel, api.Errno) {
	t.Helper()
	if !standardValid(t, c) {
		return api.Channel{}, api.ErrForm
	}
	if len(fresh) < 16 || len(fresh) > 64 {
		return api.Channel{}, api.ErrKey
	}
	return standardEnd(t, c.Client, standardExtract(t, fresh, c.Secret)), api.OK
}

// ends are both ends of a channel.
func ends(t *testing.T) (client, server api.Channel) {
	t.Helper()
	return standardEnd(t, true, counted(0x40, 32)), standardEnd(t, false, counted(0x40, 32))
}

// valid are channels of both ends with numbers at the bounds.
func valid(t *testing.T) []api.Channel {
	t.Helper()
	var l []api.Channel
	for k, n := range []int{0, 1, 255, 256, 1<<32 - 1, 1 << 32, most - 1, most} {
		for _, m := range []int{0, 1 << 16, most - 1, most} {
			c := standardEnd(t, (k+m)%2 == 0, counted(k+m, 32))
			l = append(l, at(c, n, m), at(c, m, n))
		}
	}
	return l
}

// changed is a way to make a channel invalid.
type changed struct {
	name   string
	change func(c *api.Channel)
}

func changes() []changed {
	return []changed{
		{"no secret", func(c *api.Channel) { c.Secret = nil }},
		{"a secret that begins later", func(c *api.Channel) { c.Secret = c.Secret[1:] }},
		{"a longer secret", func(c *api.Channel) { c.Secret = append(bytes.Clone(c.Secret), 0) }},
		{"another secret", func(c *api.Channel) { c.Secret = counted(9, 32) }},
		{"a key as the secret", func(c *api.Channel) { c.Secret = c.SendKey }},
		{"no key to send", func(c *api.Channel) { c.SendKey = nil }},
		{"no key to receive", func(c *api.Channel) { c.ReceiveKey = nil }},
		{"a shorter key to send", func(c *api.Channel) { c.SendKey = c.SendKey[:31] }},
		{"a shorter key to receive", func(c *api.Channel) { c.ReceiveKey = c.ReceiveKey[:31] }},
		{"a longer key to send", func(c *api.Channel) { c.SendKey = append(bytes.Clone(c.SendKey), 0) }},
		{"a longer key to receive", func(c *api.Channel) { c.ReceiveKey = append(bytes.Clone(c.ReceiveKey), 0) }},
		{"zeros as the key to send", func(c *api.Channel) { c.SendKey = make([]byte, 32) }},
		{"zeros as the key to receive", func(c *api.Channel) { c.ReceiveKey = make([]byte, 32) }},
		{"the key to receive twice", func(c *api.Channel) { c.SendKey = c.ReceiveKey }},
		{"the key to send twice", func(c *api.Channel) { c.ReceiveKey = c.SendKey }},
		{"the keys the other way round", func(c *api.Channel) { c.SendKey, c.ReceiveKey = c.ReceiveKey, c.SendKey }},
		{"the other end", func(c *api.Channel) { c.Client = !c.Client }},
		{"-1 records sent", func(c *api.Channel) { c.Sent = -1 }},
		{"-1 records received", func(c *api.Channel) { c.Received = -1 }},
		{"too many records sent", func(c *api.Channel) { c.Sent = most + 1 }},
		{"too many records received", func(c *api.Channel) { c.Received = most + 1 }},
		{"the least number sent", func(c *api.Channel) { c.Sent = -1 << 63 }},
		{"the least number received", func(c *api.Channel) { c.Received = -1 << 63 }},
		{"the greatest number sent", func(c *api.Channel) { c.Sent = 1<<63 - 1 }},
		{"the greatest number received", func(c *api.Channel) { c.Received = 1<<63 - 1 }},
	}
}
