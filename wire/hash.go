package wire

import (
	"strconv"
	"strings"
)

const (
	hashStart  uint64 = 14695981039346656037
	hashFactor uint64 = 1099511628211
	hashDigits        = 16
)

// Hash tells the hash of a state's bytes.
func Hash(state string) string {
	h := hashStart
	for i := range len(state) {
		h ^= uint64(state[i])
		h *= hashFactor
	}
	digits := strconv.FormatUint(h, 16)
	return strings.Repeat("0", hashDigits-len(digits)) + digits
}
