package payloads

import (
	"bytes"
	"math"
	"strings"
	"testing"

	"courier/api"
)

func kinds() []Kind {
	return []Kind{Hello, Here, Subscribe, Call, Got, Done, Welcome, Heard, Item, Finished, Lost, Missed, Answer, Unknown}
}

func TestKindsDiffer(t *testing.T) {
	for i, kind := range kinds() {
		if int(kind) != i {
			t.Errorf("the kind at %d is %d", i, kind)
		}
	}
}

func TestWriteAndRead(t *testing.T) {
	counts := []uint64{0, 1, 127, 128, 1 << 40, math.MaxUint64}
	for _, kind := range kinds() {
		for i := range counts {
			for _, data := range []string{"", "ticks", "\x00\xff", strings.Repeat("d", api.MaxValue)} {
				p := Payload{kind, counts[i], counts[(i+1)%6], counts[(i+2)%6], counts[(i+4)%6], data}
				written := Write(p)
				back, ok := Read(written)
				if !ok || back != p {
					t.Errorf("Read of %v, of %v, gives %v, %v", written, p, back, ok)
				}
				if !bytes.Equal(Write(back), written) {
					t.Errorf("%v is written in two ways", p)
				}
			}
		}
	}
}

// TestNoneIsTooLong: the longest one goes into a frame.
func TestNoneIsTooLong(t *testing.T) {
	question := strings.Repeat("n", api.MaxName) + " " + strings.Repeat("d", api.MaxValue)
	longest := Payload{Call, math.MaxUint64, math.MaxUint64, math.MaxUint64, math.MaxUint64, question}
	if n := len(Write(longest)); n > api.MaxFrame {
		t.Errorf("a payload may have %d bytes", n)
	}
}

func TestReadNone(t *testing.T) {
	whole := Write(Payload{Item, 300, 5, 1 << 60, 0, ""})
	for i := range whole {
		if p, ok := Read(whole[:i]); ok || p != (Payload{}) {
			t.Errorf("Read(%v) = %v, %v", whole[:i], p, ok)
		}
	}
	for _, data := range [][]byte{nil, {0, 128, 0, 0, 0, 0}, {0, 0, 0, 0, 129, 0}, append([]byte{0}, bytes.Repeat([]byte{255}, 50)...)} {
		if p, ok := Read(data); ok || p != (Payload{}) {
			t.Errorf("Read(%v) = %v, %v", data, p, ok)
		}
	}
}

func TestReadKeepsNothing(t *testing.T) {
	data := Write(Payload{Item, 1, 2, 3, 4, "data"})
	p, _ := Read(data)
	clear(data)
	if p != (Payload{Item, 1, 2, 3, 4, "data"}) {
		t.Errorf("when the bytes are written into, the payload is %v", p)
	}
}
