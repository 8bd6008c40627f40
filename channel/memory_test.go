package channel_test

import (
	"bytes"
	"testing"

	"sectime/api"
	"sectime/channel"
)

// roomy is the beginning of longer memory that no function may write to or show.
func roomy(b []byte) []byte {
	return append(bytes.Clone(b), counted(200, 100)...)[:len(b)]
}

// spoil changes all the memory of bytes, so that whatever shares it shows.
func spoil(b []byte) {
	b = b[:cap(b)]
	for k := range b {
		b[k] ^= 0xff
	}
}

// unspoilt reports whether bytes made by roomy, and those behind them, are still what they were.
func unspoilt(b, want []byte) bool {
	return bytes.Equal(b, want) && bytes.Equal(b[:len(b)+100][len(b):], counted(200, 100))
}

func roomyChannel(c api.Channel) api.Channel {
	c.Secret, c.SendKey, c.ReceiveKey = roomy(c.Secret), roomy(c.SendKey), roomy(c.ReceiveKey)
	return c
}

// checkChannel reports what a function has done to a channel made by roomyChannel.
func checkChannel(t *testing.T, name string, c, want api.Channel) {
	t.Helper()
	if !sameChannel(c, want) || !unspoilt(c.Secret, want.Secret) || !unspoilt(c.SendKey, want.SendKey) || !unspoilt(c.ReceiveKey, want.ReceiveKey) {
		t.Fatalf("%s changes the channel, or shares memory with it: %v, want %v", name, c, want)
	}
}

// spoilChannel spoils the parts of a result one by one, which must not show in the others.
func spoilChannel(t *testing.T, name string, c, want api.Channel) {
	t.Helper()
	if !sameChannel(c, want) {
		t.Fatalf("%s is %v, want %v", name, c, want)
	}
	spoil(c.Secret)
	if !bytes.Equal(c.SendKey, want.SendKey) || !bytes.Equal(c.ReceiveKey, want.ReceiveKey) {
		t.Fatalf("the keys of %s share memory with its secret", name)
	}
	spoil(c.SendKey)
	if !bytes.Equal(c.ReceiveKey, want.ReceiveKey) {
		t.Fatalf("the keys of %s share memory", name)
	}
	spoil(c.ReceiveKey)
}

func TestMemoryOfBegin(t *testing.T) {
	secret, hello := roomy(counted(1, 20)), roomy(counted(2, 30))
	for range 2 {
		for _, client := range []bool{true, false} {
			want, _ := standardBegin(t, client, counted(1, 20), counted(2, 30))
			c, _ := channel.Begin(client, secret, hello)
			spoilChannel(t, "Begin", c, want)
		}
	}
	channel.Begin(true, secret[:15], hello)
	if !unspoilt(secret, counted(1, 20)) || !unspoilt(hello, counted(2, 30)) {
		t.Error("Begin shares memory with an argument, or changes it")
	}
}

func TestMemoryOfChannels(t *testing.T) {
	client, server := ends(t)
	for _, want := range []api.Channel{client, server, at(client, 4, 5)} {
		c, context, fresh := roomyChannel(want), roomy(counted(3, 40)), roomy(counted(4, 16))
		for range 2 {
			channel.Valid(c)
			checkChannel(t, "Valid", c, want)
			spoil(checkExport(t, c, "label", context, 50))
			checkChannel(t, "Export", c, want)
			renewed, _ := standardRenew(t, want, counted(4, 16))
			spoilChannel(t, "Renew", checkRenew(t, c, fresh), renewed)
			checkChannel(t, "Renew", c, want)
			if !unspoilt(context, counted(3, 40)) || !unspoilt(fresh, counted(4, 16)) {
				t.Fatal("Export or Renew shares memory with an argument, or changes it")
			}
		}
	}
}

func TestMemoryOfRecords(t *testing.T) {
	client, server := ends(t)
	for _, end := range []api.Channel{client, server, at(client, 4, 5)} {
		from, to, b := roomyChannel(end), roomyChannel(other(t, end)), roomy(counted(5, 50))
		record := roomy(standardSend(t, end, 7, counted(5, 50)).record)
		made := bytes.Clone(record)
		for range 2 {
			s := checkSend(t, from, 7, b, api.OK)
			spoil(s.record)
			spoilChannel(t, "Send", s.c, at(end, end.Sent+1, end.Received))
			checkChannel(t, "Send", from, end)
			r := checkReceive(t, to, record, api.OK)
			spoil(r.b)
			spoilChannel(t, "Receive", r.c, at(other(t, end), end.Received, end.Sent+1))
			checkChannel(t, "Receive", to, other(t, end))
			if !unspoilt(b, counted(5, 50)) || !unspoilt(record, made) {
				t.Fatal("Send or Receive shares memory with an argument, or changes it")
			}
		}
	}
}

// Arguments that are refused stay as they are too.
func TestMemoryOfRefusedRecords(t *testing.T) {
	client, server := ends(t)
	bad := standardSend(t, client, 7, counted(5, 50)).record
	bad[30] ^= 1
	record, b := roomy(bad), roomy(counted(5, 50))
	c := roomyChannel(server)
	checkReceive(t, c, record, api.ErrAuth)
	checkReceive(t, c, record[:40], api.ErrShort)
	checkSend(t, c, 256, b, api.ErrRange)
	checkChannel(t, "a function that refuses", c, server)
	full := roomyChannel(at(client, most, most))
	checkSend(t, full, 1, b, api.ErrState)
	checkReceive(t, full, record, api.ErrState)
	checkChannel(t, "a function that refuses", full, at(client, most, most))
	if !unspoilt(record, bad) || !unspoilt(b, counted(5, 50)) {
		t.Error("bytes that are refused are changed")
	}
}
