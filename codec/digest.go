package codec

import (
	"math/bits"
	"strconv"
	"strings"
)

const (
	digestStart  uint64 = 11400714819323198485
	digestFactor uint64 = 18397679294719823053
	digestLength        = 16 // hexadecimal digits
)

// Digest returns the digest of a string: 16 hexadecimal digits.
func Digest(s string) string {
	h := digestStart
	for i := range len(s) {
		h = (bits.RotateLeft64(h, 7) ^ uint64(s[i])) * digestFactor
	}
	h ^= h >> 32
	digits := strconv.FormatUint(h, 16)
	return strings.Repeat("0", digestLength-len(digits)) + digits
}
