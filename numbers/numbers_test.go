package numbers

import (
	"bytes"
	"encoding/binary"
	"math"
	"math/rand"
	"slices"
	"testing"
)

func TestBothWays(t *testing.T) {
	all := []uint64{0, 1, 127, 128, 129, 255, 256, 300, 16383, 16384, 1<<63 - 1, 1 << 63, math.MaxUint64 - 1, math.MaxUint64}
	source := rand.New(rand.NewSource(1))
	for range 2000 {
		all = append(all, source.Uint64()>>source.Intn(64))
	}
	for _, n := range all {
		want := binary.AppendUvarint([]byte{7}, n)
		if got := Append([]byte{7}, n); !bytes.Equal(got, want) {
			t.Fatalf("Append of %d = %v, want %v", n, got, want)
		}
		got, rest, ok := Take(append(want[1:], 128, 9))
		if got != n || !ok || !bytes.Equal(rest, []byte{128, 9}) {
			t.Fatalf("Take of %v = %d, %v, %v, want %d", want[1:], got, rest, ok, n)
		}
	}
}

func TestTakeNoNumber(t *testing.T) {
	nines := bytes.Repeat([]byte{255}, 9)
	for _, data := range [][]byte{
		nil, {128}, {255, 255}, {128, 0}, {255, 0}, {129, 128, 0}, {128, 128},
		slices.Concat(nines, []byte{2}), slices.Concat(nines, []byte{3}), slices.Concat(nines, []byte{127}), slices.Concat(nines, []byte{0}),
		slices.Concat(nines, []byte{129}), slices.Concat(nines, []byte{129, 1}), slices.Concat(nines, []byte{128, 1}), slices.Concat(nines, []byte{255, 255, 1}),
		append(bytes.Repeat([]byte{128}, 10), 1), append(bytes.Repeat([]byte{128}, 10), 0), append(bytes.Repeat([]byte{128}, 1000), 1), bytes.Repeat([]byte{128}, 1000),
	} {
		if n, rest, ok := Take(data); ok {
			t.Errorf("Take of %v = %d, %v", data, n, rest)
		}
	}
}
