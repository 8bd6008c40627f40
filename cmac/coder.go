package cmac

import (
	"sectime/api"
	"sectime/cipher"
	"sectime/octets"
)

// keyed is the cipher with a key of the right length.
type keyed struct{ key []byte }

// encrypted returns the encryption of a block.
func (k keyed) encrypted(block []byte) []byte {
	out, _ := cipher.Block(k.key, block) // both lengths are right
	return out
}

// coder is the cipher with the subkeys that follow from its key.
type coder struct {
	keyed
	whole, part []byte // combined with a last block that is complete, and with another one
}

// coderOf returns the error of the cipher if it does not take the key.
func coderOf(key []byte) (coder, api.Errno) {
	zeros, e := cipher.Block(key, make([]byte, blockSize))
	if e != api.OK {
		return coder{}, e
	}
	whole := Double(zeros)
	return coder{keyed{key}, whole, Double(whole)}, api.OK
}

// code is Cmac of b, which is not too long.
func (c coder) code(b []byte) []byte {
	value := make([]byte, blockSize)
	// A full block is not encrypted before there are bytes behind it: the last one needs its subkey.
	for len(b) > blockSize {
		value = c.encrypted(combined(value, b[:blockSize]))
		b = b[blockSize:]
	}
	return c.encrypted(combined(value, c.last(b)))
}

// last returns the block that stands for the last bytes, of which there may be none.
func (c coder) last(b []byte) []byte {
	if len(b) == blockSize {
		return combined(b, c.whole)
	}
	return combined(filled(b), c.part)
}

// filled returns the block of bytes that are too few for one; the mark shows where they end.
func filled(b []byte) []byte {
	return octets.Pad(octets.Join(b, []byte{mark}), blockSize)
}

// combined returns the xor of two blocks.
func combined(a, b []byte) []byte {
	out := make([]byte, blockSize)
	for k := range out {
		out[k] = a[k] ^ b[k]
	}
	return out
}
