// Package numbers writes and reads small numbers.
package numbers

const (
	bits = 7         // of the number in each byte
	more = 1 << bits // set in each byte but the last one
)

// Append puts the bytes of a number behind data.
func Append(data []byte, n uint64) []byte {
	for ; n >= more; n >>= bits {
		data = append(data, byte(n)|more)
	}
	return append(data, byte(n))
}

// Take gives the number that data begins with and what is behind it, or false
// if none of at most 64 bits stands there in as few bytes as there can be.
func Take(data []byte) (uint64, []byte, bool) {
	var n uint64
	for i, b := range data {
		part := uint64(b &^ more)
		shift := bits * i
		if part<<shift>>shift != part {
			return 0, nil, false
		}
		n |= part << shift
		if b < more {
			return n, data[i+1:], b > 0 || i == 0
		}
	}
	return 0, nil, false
}
