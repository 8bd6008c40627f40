package channel

import (
	"sectime/aead"
	"sectime/api"
	"sectime/octets"
)

const (
	kindSize   = 1 // bytes of the kind of a record
	lengthSize = 2 // bytes of the number of its sealed bytes
	headSize   = kindSize + lengthSize
	countSize  = 8 // bytes of the number of the records before, which is not sent

	kinds     = 1 << (8 * kindSize)
	tagSize   = 16                 // bytes by which sealed bytes are longer than plain ones
	maxPlain  = 16384              // bytes that one record may carry
	maxSealed = maxPlain + tagSize // and as many of them when they are sealed
)

// Send returns the channel behind a record with these bytes, and the record.
func Send(c api.Channel, kind int, b []byte) (api.Channel, []byte, api.Errno) {
	if !Valid(c) {
		return api.Channel{}, nil, api.ErrForm
	}
	if kind < 0 || kind >= kinds {
		return api.Channel{}, nil, api.ErrRange
	}
	if len(b) > maxPlain {
		return api.Channel{}, nil, api.ErrLong
	}
	if c.Sent == maxCount {
		return api.Channel{}, nil, api.ErrState
	}
	head := octets.Join(octets.Put(uint64(kind), kindSize), octets.Put(uint64(len(b)+tagSize), lengthSize))
	// Seal has no error: the key is one of a valid channel, and all the rest is short.
	sealed, _ := aead.Seal(c.SendKey, data(c.Sent, head), b)
	return behind(c, 1, 0), octets.Join(head, sealed), api.OK
}

// Receive returns the channel behind a record, and the kind and the bytes that were sent.
func Receive(c api.Channel, record []byte) (n api.Channel, kind int, b []byte, e api.Errno) {
	if !Valid(c) {
		return api.Channel{}, 0, nil, api.ErrForm
	}
	head, sealed, e := parts(record)
	if e != api.OK {
		return api.Channel{}, 0, nil, e
	}
	if c.Received == maxCount {
		return api.Channel{}, 0, nil, api.ErrState
	}
	b, e = aead.Open(c.ReceiveKey, data(c.Received, head), sealed)
	if e != api.OK {
		return api.Channel{}, 0, nil, api.ErrAuth // also for fewer bytes than a tag has
	}
	return behind(c, 0, 1), int(octets.Get(head[:kindSize])), b, api.OK
}

// parts returns the first bytes of a record, and the sealed ones that they count.
func parts(record []byte) (head, sealed []byte, e api.Errno) {
	head, sealed, ok := octets.Cut(record, headSize)
	if !ok {
		return nil, nil, api.ErrShort
	}
	length := int(octets.Get(head[kindSize:]))
	if len(sealed) < length {
		return nil, nil, api.ErrShort
	}
	if len(sealed) > length || length > maxSealed {
		return nil, nil, api.ErrLong
	}
	return head, sealed, api.OK
}

// data returns what is authenticated with the bytes of a record: a record has another place if one before it is lost or comes twice.
func data(count int, head []byte) [][]byte {
	return [][]byte{octets.Put(uint64(count), countSize), head}
}

// behind returns a channel with so many more records sent and received, in memory of its own.
func behind(c api.Channel, sent, received int) api.Channel {
	return api.Channel{
		Client:     c.Client,
		Secret:     octets.Join(c.Secret),
		SendKey:    octets.Join(c.SendKey),
		ReceiveKey: octets.Join(c.ReceiveKey),
		Sent:       c.Sent + sent,
		Received:   c.Received + received,
	}
}
