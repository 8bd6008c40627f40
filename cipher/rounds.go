package cipher

const (
	rounds     = 10
	columnSize = 4 // bytes of a column, and of a word of a key
)

// state is a block on its way, or a round key: column after column.
type state [blockSize]byte

// schedule are all round keys.
type schedule [rounds + 1]state

// expanded returns the round keys that follow from a key.
func expanded(key []byte) schedule {
	var keys schedule
	copy(keys[0][:], key)
	constant := byte(1)
	for round := 1; round <= rounds; round++ {
		keys[round] = following(keys[round-1], constant)
		constant = double(constant)
	}
	return keys
}

// following returns the round key behind another one.
func following(key state, constant byte) state {
	word := [columnSize]byte{Sub(key[13]) ^ constant, Sub(key[14]), Sub(key[15]), Sub(key[12])}
	// Each new word is the old one in its place, changed by the new word before it.
	for k := range key {
		key[k] ^= word[k%columnSize]
		word[k%columnSize] = key[k]
	}
	return key
}

// encrypted returns the encryption of a block.
func encrypted(keys schedule, block []byte) state {
	var s state
	copy(s[:], block)
	s = combined(s, keys[0])
	for round := 1; round < rounds; round++ {
		s = combined(mixed(replaced(s)), keys[round])
	}
	return combined(replaced(s), keys[rounds])
}

func combined(s, key state) state {
	for k, x := range key {
		s[k] ^= x
	}
	return s
}

// replaced replaces each byte and rotates the rows.
func replaced(s state) state {
	var to state
	for k := range to {
		row := k % columnSize
		// A row is rotated by as many columns as its number says.
		to[k] = Sub(s[(k+row*columnSize)%blockSize])
	}
	return to
}

// mixed multiplies each column by the matrix.
func mixed(s state) state {
	var to state
	for k := range to {
		row := k % columnSize
		column := s[k-row : k-row+columnSize]
		below := column[(row+1)%columnSize]
		// A row of the matrix is 2, 3, 1, 1 from its diagonal on: 3 times a byte is 2 times it and the byte.
		to[k] = double(s[k]^below) ^ below ^ column[(row+2)%columnSize] ^ column[(row+3)%columnSize]
	}
	return to
}
