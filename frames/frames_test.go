package frames

import (
	"bytes"
	"testing"

	"courier/api"
)

func TestUnwrap(t *testing.T) {
	for size := 1; size <= api.MaxFrame; size++ {
		payload := bytes.Repeat([]byte{byte(size)}, size)
		frame, _ := Wrap(payload)
		got, ok := Unwrap(frame)
		if !ok || !bytes.Equal(got, payload) {
			t.Errorf("P8: Unwrap(%v) = %v, %v", frame, got, ok)
		}
		clear(frame)
		if !bytes.Equal(got, payload) {
			t.Errorf("P2: when a frame is written into, its payload is %v", got)
		}
	}
}

func TestUnwrapWhatIsNone(t *testing.T) {
	frame, _ := Wrap([]byte("ab"))
	bad := [][]byte{nil, {}, {0}, {0, 0, 0, 0, 0}, append(bytes.Clone(frame), 0), append([]byte{0}, frame...), append(bytes.Clone(frame), frame...), make([]byte, 1<<20)}
	for i := range frame {
		bad = append(bad, frame[:i])
		for turned := 1; turned < 256; turned++ {
			spoiled := bytes.Clone(frame)
			spoiled[i] ^= byte(turned)
			bad = append(bad, spoiled)
		}
	}
	for _, data := range bad {
		if got, ok := Unwrap(data); ok || got != nil {
			t.Errorf("P8: Unwrap(%.40v) = %v, %v", data, got, ok)
		}
	}
}
