package sha

import (
	"encoding/binary"
	"math"
	"math/bits"
	"slices"
	"testing"
)

// P6.1: padded, with all numbers of bits, those too that no list at hand has.
func TestPad(t *testing.T) {
	for n := range 64 {
		checkPad(t, pad[uint32], n, 64, 8)
	}
	for n := range 128 {
		checkPad(t, pad[uint64], n, 128, 16)
	}
}

// checkPad holds what n bytes are when they are padded against the document's words: blocks of so many bytes, a number of so many.
func checkPad(t *testing.T, pad func([]byte, uint64) []byte, n, block, size int) {
	t.Helper()
	rest := slices.Repeat([]byte{255}, n)
	for _, all := range []uint64{0, 1, 1 << 28, 1<<29 - 1, 1 << 29, 1 << 32, 1<<61 - 1, 1 << 61, math.MaxUint64} {
		if size == 8 && all>>61 != 0 {
			continue // so many bits have no room in 8 bytes
		}
		want := append(slices.Clone(rest), 0x80)
		for (len(want)+size)%block != 0 {
			want = append(want, 0)
		}
		high, low := bits.Mul64(all, 8)
		if size == 16 {
			want = binary.BigEndian.AppendUint64(want, high)
		}
		want = binary.BigEndian.AppendUint64(want, low)
		if got := pad(rest, all); !slices.Equal(got, want) {
			t.Errorf("%d bytes of %d, padded: %x, want %x", n, all, got, want)
		}
	}
}
