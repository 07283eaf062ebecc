// Package sample: what the tests of several packages work on; the program itself
// calls none of it.
package sample

// Bytes: n bytes of all kinds, always the same; another seed, other bytes.
func Bytes(n int, seed uint32) []byte {
	b := make([]byte, n)
	for i := range b {
		seed = seed*1664525 + 1013904223
		b[i] = byte(seed >> 24)
	}
	return b
}
