// Package sum: checks and hashes: see DOC.md, chapter 1.
package sum

// reversed is CRC-32C's polynomial, its lowest power in the highest bit.
const reversed uint32 = 2197175160

// The numbers of FNV-1a.
const (
	offset uint64 = 14695981039346656037
	prime  uint64 = 1099511628211
)

// Crc sums bytes.
func Crc(b []byte) uint32 { return More(0, b) }

// More sums on. The bits are turned at both ends, so that a sum that was
// answered is gone on with as if it had never ended.
func More(sum uint32, b []byte) uint32 {
	c := ^sum
	for _, x := range b {
		c = shift(c ^ uint32(x))
	}
	return ^c
}

// shift takes the eight lowest bits out of c.
func shift(c uint32) uint32 {
	for range 8 {
		if c&1 == 1 {
			c = c>>1 ^ reversed
		} else {
			c >>= 1
		}
	}
	return c
}

// Hash tells a key's number.
func Hash(key string) uint64 { return fold(offset, key) }

// Second tells another one. The byte 0 ahead of the key leaves the beginning
// as it is but for one more multiplication.
func Second(key string) uint64 { return fold(turn(prime, 0), key) }

// fold goes by bytes, not by runes: a key need not be well formed.
func fold(h uint64, key string) uint64 {
	for i := range len(key) {
		h = turn(h, key[i])
	}
	return h
}

func turn(h uint64, x byte) uint64 { return (h ^ uint64(x)) * prime }
