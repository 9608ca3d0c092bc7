package courier_test

import (
	"bytes"
	"encoding/binary"
	"hash/crc32"
	"math/rand"
	"slices"
	"sync"
	"testing"

	"courier/api"
	"courier/courier"
)

// framed gives the frames of payloads one behind the other, of any length and
// with no call of the project.
func framed(payloads ...[]byte) []byte {
	var all []byte
	for _, payload := range payloads {
		frame := append(binary.AppendUvarint(nil, uint64(len(payload))), payload...)
		all = append(all, binary.BigEndian.AppendUint32(frame, crc32.ChecksumIEEE(frame))...)
	}
	return all
}

// unframed is a second way to work out what a deframer has given by all the
// bytes so far, and what it answers then.
func unframed(data []byte) ([][]byte, api.Errno) {
	if len(data) == 0 {
		return nil, api.OK
	}
	count := int(data[0])
	if count == 0 || count > 120 {
		return nil, api.ErrFrame
	}
	if len(data) < count+5 {
		return nil, api.OK
	}
	payload := data[1 : count+1]
	if !bytes.HasPrefix(data, framed(payload)) {
		return nil, api.ErrFrame
	}
	others, e := unframed(data[count+5:])
	return append([][]byte{payload}, others...), e
}

func sameLists(a, b [][]byte) bool {
	return slices.EqualFunc(a, b, bytes.Equal)
}

// scribble writes into lists and all their spare room.
func scribble(lists ...[]byte) {
	for _, list := range lists {
		room := list[:cap(list)]
		for i := range room {
			room[i] = 0xEE
		}
	}
}

// feedWatched calls Feed with a chunk that has spare room, tells if any of it was
// written into, and then spoils it, as it may not be kept.
func feedWatched(t *testing.T, d *courier.Deframer, chunk []byte) ([][]byte, api.Errno) {
	t.Helper()
	room := append(slices.Clone(chunk), 1, 'a', 0, 0)
	before := slices.Clone(room)
	payloads, e := d.Feed(room[:len(chunk)])
	if !bytes.Equal(room, before) {
		t.Fatalf("P2: Feed of %v leaves %v", before, room)
	}
	scribble(room)
	return payloads, e
}

// feedPieces feeds a new deframer the data, cut at these places, and holds each
// answer against the second way to work it out. It tells the last answer.
func feedPieces(t *testing.T, data []byte, cuts ...int) api.Errno {
	t.Helper()
	d := courier.NewDeframer()
	begin, given, last := 0, 0, api.OK
	for _, end := range append(slices.Clone(cuts), len(data)) {
		payloads, e := feedWatched(t, d, data[begin:end])
		all, want := unframed(data[:end])
		if e != want || !sameLists(payloads, all[given:]) {
			t.Fatalf("P6: of %v cut at %v, Feed of the piece at %d = %v, %d, want %v, %d", data, cuts, begin, payloads, e, all[given:], want)
		}
		if e != api.OK && len(payloads) == 0 && payloads != nil {
			t.Fatalf("P1: Feed of %v answers %d and a list that is not nil", data[begin:end], e)
		}
		scribble(payloads...)
		begin, given, last = end, len(all), e
	}
	return last
}

// everyPlace gives all places at which data can be cut.
func everyPlace(data []byte) []int {
	var places []int
	for i := range data {
		places = append(places, i)
	}
	return places
}

func randomCuts(source *rand.Rand, data []byte) []int {
	var cuts []int
	for range source.Intn(8) {
		cuts = append(cuts, source.Intn(len(data)+1))
	}
	slices.Sort(cuts)
	return cuts
}

// feedAllWays feeds data whole, by single bytes and in random pieces, some of
// them empty.
func feedAllWays(t *testing.T, source *rand.Rand, data []byte) api.Errno {
	t.Helper()
	last := feedPieces(t, data)
	feedPieces(t, data, everyPlace(data)...)
	for range 3 {
		feedPieces(t, data, randomCuts(source, data)...)
	}
	return last
}

func randomPayloads(source *rand.Rand, count, most int) [][]byte {
	var payloads [][]byte
	for range count {
		payloads = append(payloads, randomBytes(source, 1+source.Intn(most)))
	}
	return payloads
}

func TestFrameExamples(t *testing.T) {
	for _, c := range []struct{ payload, frame []byte }{
		{[]byte("a"), []byte{1, 97, 98, 119, 114, 112}},
		{[]byte("bcd"), []byte{3, 98, 99, 100, 124, 173, 242, 153}},
		{[]byte{0}, []byte{1, 0, 88, 194, 35, 190}},
		{bytes.Repeat([]byte{255}, 120), slices.Concat([]byte{120}, bytes.Repeat([]byte{255}, 120), []byte{98, 239, 91, 32})},
	} {
		if frame, e := courier.Frame(c.payload); e != api.OK || !bytes.Equal(frame, c.frame) {
			t.Errorf("P6: Frame(%v) = %v, %d, want %v", c.payload, frame, e, c.frame)
		}
		if payloads, e := courier.NewDeframer().Feed(c.frame); e != api.OK || !sameLists(payloads, [][]byte{c.payload}) {
			t.Errorf("P6: Feed(%v) = %v, %d, want %v", c.frame, payloads, e, c.payload)
		}
	}
	if payloads, e := courier.NewDeframer().Feed([]byte{0}); e != api.ErrFrame || payloads != nil {
		t.Errorf("P6: Feed of a byte 0 = %v, %d", payloads, e)
	}
	d, data := courier.NewDeframer(), framed([]byte("half"), []byte("next"))
	if payloads, e := d.Feed(data[:4]); e != api.OK || len(payloads) != 0 {
		t.Errorf("P6: Feed of the first half of a frame = %v, %d", payloads, e)
	}
	if payloads, e := d.Feed(data[4:12]); e != api.OK || !sameLists(payloads, [][]byte{[]byte("half")}) {
		t.Errorf("P6: Feed of the second half and the beginning of the next = %v, %d", payloads, e)
	}
}

func TestFrameOfEachSize(t *testing.T) {
	source := rand.New(rand.NewSource(5))
	for _, payload := range [][]byte{nil, {}, make([]byte, 0, 9)} {
		if frame, e := courier.Frame(payload); e != api.ErrFrame || frame != nil {
			t.Errorf("P6: Frame of no bytes = %v, %d", frame, e)
		}
	}
	for size := 1; size <= 300; size++ {
		payload := randomBytes(source, size)
		frame, e := courier.Frame(payload)
		if size > api.MaxFrame {
			if e != api.ErrFrame || frame != nil {
				t.Errorf("P6: Frame of %d bytes = %v, %d", size, frame, e)
			}
			continue
		}
		if e != api.OK || !bytes.Equal(frame, framed(payload)) {
			t.Errorf("P6: Frame(%v) = %v, %d", payload, frame, e)
		}
	}
	for _, size := range []int{256 + 1, 256 + 120, 1<<16 + 1, 1 << 24} {
		if frame, e := courier.Frame(make([]byte, size)); e != api.ErrFrame || frame != nil {
			t.Errorf("P6: Frame of %d bytes = %d bytes, %d", size, len(frame), e)
		}
	}
}

// TestFrameOfEachByte: each bit of each byte counts for the sum.
func TestFrameOfEachByte(t *testing.T) {
	for b := range 256 {
		for _, payload := range [][]byte{{byte(b)}, {0, byte(b)}, {byte(b), 0, 255}} {
			if frame, e := courier.Frame(payload); e != api.OK || !bytes.Equal(frame, framed(payload)) {
				t.Errorf("P6: Frame(%v) = %v, %d, want %v", payload, frame, e, framed(payload))
			}
		}
	}
}

func TestFeedCutAtEveryPlace(t *testing.T) {
	source := rand.New(rand.NewSource(6))
	for _, sizes := range [][]int{{1}, {120}, {1, 1}, {3, 120, 1}, {120, 120}, {2, 1, 5, 119, 7}} {
		var payloads [][]byte
		for _, size := range sizes {
			payloads = append(payloads, randomBytes(source, size))
		}
		data := framed(payloads...)
		for i := range data {
			feedPieces(t, data, i)
			feedPieces(t, data[:i])
			feedPieces(t, data[:i], everyPlace(data[:i])...)
		}
		feedAllWays(t, source, data)
	}
	data := framed([]byte("a"), []byte("bcd"), []byte{0, 1, 2, 0})
	for i := range data {
		for k := i; k < len(data); k++ {
			feedPieces(t, data, i, k)
		}
	}
}

// TestFeedFramesOfItsOwn: what Frame gives, Feed takes, also where a payload
// looks like frames itself.
func TestFeedFramesOfItsOwn(t *testing.T) {
	payload := []byte{1}
	for len(payload) <= api.MaxFrame {
		frame, e := courier.Frame(payload)
		got, f := courier.NewDeframer().Feed(slices.Concat(frame, frame))
		if e != api.OK || f != api.OK || !sameLists(got, [][]byte{payload, payload}) {
			t.Fatalf("P6: Frame(%v) = %d, and Feed of it twice = %v, %d", payload, e, got, f)
		}
		payload = frame
	}
}

func TestFeedCountsThatCannotBe(t *testing.T) {
	source := rand.New(rand.NewSource(7))
	for count := range 256 {
		payload := randomBytes(source, count)
		ahead := framed(randomPayloads(source, source.Intn(3), 120)...)
		// The byte alone, and what would be a frame of it, with a right sum.
		for _, fault := range [][]byte{{byte(count)}, framed(payload), append([]byte{byte(count)}, payload...)} {
			behind := framed([]byte("behind"))
			feedAllWays(t, source, fault)
			feedAllWays(t, source, slices.Concat(ahead, fault))
			feedAllWays(t, source, slices.Concat(ahead, fault, behind))
		}
		want := api.OK
		if count == 0 || count > api.MaxFrame {
			want = api.ErrFrame
		}
		payloads, e := courier.NewDeframer().Feed([]byte{byte(count)})
		if e != want || len(payloads) != 0 {
			t.Errorf("P6: Feed of a byte %d = %v, %d, want %d", count, payloads, e, want)
		}
	}
	// A small number in more bytes than need be is none.
	for _, fault := range [][]byte{{129, 0, 'a'}, {128, 0}, {128, 1}, {248, 0}} {
		fault = binary.BigEndian.AppendUint32(fault, crc32.ChecksumIEEE(fault))
		if payloads, e := courier.NewDeframer().Feed(fault); e != api.ErrFrame || payloads != nil {
			t.Errorf("P6: Feed(%v) = %v, %d", fault, payloads, e)
		}
	}
}

// TestFeedSpoiled turns each bit of frames, at all of which something is wrong
// then, ahead of and behind whole ones.
func TestFeedSpoiled(t *testing.T) {
	source := rand.New(rand.NewSource(8))
	for _, sizes := range [][]int{{1, 3, 2}, {40, 1}} {
		var payloads [][]byte
		for _, size := range sizes {
			payloads = append(payloads, randomBytes(source, size))
		}
		data := framed(payloads...)
		for i := range data {
			for bit := range 8 {
				bad := slices.Clone(data)
				bad[i] ^= 1 << bit
				last := feedAllWays(t, source, bad)
				if last == api.OK && !isBeginning(bad) {
					t.Errorf("P6: Feed of %v, where one bit is turned, answers OK", bad)
				}
			}
		}
	}
}

// isBeginning tells whether, behind the whole frames, a frame has begun: so it is
// where a turned bit makes a count greater.
func isBeginning(data []byte) bool {
	payloads, e := unframed(data)
	return e == api.OK && len(framed(payloads...)) < len(data)
}

func TestSumIsLookedAtWhenItIsThere(t *testing.T) {
	for i := range 4 {
		for turned := 1; turned < 256; turned++ {
			d, data := courier.NewDeframer(), framed([]byte("ab"), []byte("c"))
			data[3+i] ^= byte(turned)
			for k, b := range data {
				payloads, e := d.Feed([]byte{b})
				if len(payloads) != 0 || (e == api.ErrFrame) != (k >= 6) {
					t.Fatalf("P6: with byte %d of the sum turned by %d, Feed of byte %d = %v, %d", i, turned, k, payloads, e)
				}
			}
		}
	}
}

func TestSumsThatAreNear(t *testing.T) {
	payload := []byte("payload")
	frame := framed(payload)
	body, sum := frame[:8], binary.BigEndian.Uint32(frame[8:])
	for _, other := range []uint32{0, ^uint32(0), ^sum, sum + 1, sum - 1, binary.LittleEndian.Uint32(frame[8:]), crc32.ChecksumIEEE(payload), crc32.Checksum(body, crc32.MakeTable(crc32.Castagnoli))} {
		data := slices.Concat(framed([]byte("ahead")), binary.BigEndian.AppendUint32(slices.Clone(body), other), frame)
		got, e := courier.NewDeframer().Feed(data)
		if e != api.ErrFrame || !sameLists(got, [][]byte{[]byte("ahead")}) {
			t.Errorf("P6: Feed with the sum %x in the place of %x = %v, %d", other, sum, got, e)
		}
	}
}

func TestErrFrameAndNothingEverAfter(t *testing.T) {
	whole := framed([]byte("a"), bytes.Repeat([]byte{7}, 120))
	wrong := slices.Concat(whole[:5], []byte{0})
	for _, fault := range [][]byte{{0}, {121}, {128}, {255}, wrong, slices.Concat(whole, wrong), slices.Concat(whole, []byte{200}), slices.Concat([]byte{0}, whole)} {
		d := courier.NewDeframer()
		want, _ := unframed(fault)
		if got, e := d.Feed(fault); e != api.ErrFrame || !sameLists(got, want) {
			t.Fatalf("P6: Feed(%v) = %v, %d, want %v", fault, got, e, want)
		}
		for range 3 {
			for _, chunk := range [][]byte{nil, {}, {0}, {1}, whole, fault, whole[5:], make([]byte, 1000), whole[:6]} {
				if got, e := feedWatched(t, d, chunk); e != api.ErrFrame || got != nil {
					t.Fatalf("P6: behind a fault Feed(%v) = %v, %d", chunk, got, e)
				}
			}
		}
		if got, e := courier.NewDeframer().Feed(whole); e != api.OK || len(got) != 2 {
			t.Fatalf("P2: beside a deframer with a fault another one gives %v, %d", got, e)
		}
	}
}

func TestFeedMadeUp(t *testing.T) {
	source := rand.New(rand.NewSource(9))
	answers := map[api.Errno]int{}
	for range 2000 {
		data := framed(randomPayloads(source, source.Intn(5), []int{1, 4, 30, 120}[source.Intn(4)])...)
		answers[feedAllWays(t, source, data)]++
		others := append(slices.Clone(data), 0, 1, 2, 120, 121, 255)
		answers[feedAllWays(t, source, spoiled(source, data, others))]++
		few := randomBytes(source, source.Intn(40))
		for i := range few {
			few[i] %= 5
		}
		answers[feedAllWays(t, source, few)]++
	}
	for _, e := range []api.Errno{api.OK, api.ErrFrame} {
		if answers[e] < 1000 {
			t.Errorf("only %d of the made-up bytes answer %d: they try too little", answers[e], e)
		}
	}
}

// TestFeedEnds: a panic or a call that does not end fails it by itself.
func TestFeedEnds(t *testing.T) {
	payload := bytes.Repeat([]byte{5}, api.MaxFrame)
	many := bytes.Repeat(framed(payload, []byte("a")), 10000)
	d := courier.NewDeframer()
	for range 2 {
		if got, e := d.Feed(many); e != api.OK || len(got) != 20000 || !bytes.Equal(got[19998], payload) || string(got[19999]) != "a" {
			t.Fatalf("P6: Feed of 20000 frames = %d payloads, %d", len(got), e)
		}
	}
	for _, b := range []byte{0, 1, 120, 121, 255} {
		got, e := courier.NewDeframer().Feed(bytes.Repeat([]byte{b}, 1<<22))
		if e != api.ErrFrame || got != nil {
			t.Errorf("P6: Feed of many bytes %d = %v, %d", b, got, e)
		}
	}
	var none *courier.Deframer
	if got, e := none.Feed([]byte{1}); e == api.OK || got != nil {
		t.Errorf("P1: Feed of no deframer = %v, %d", got, e)
	}
}

func TestFrameLeavesThePayload(t *testing.T) {
	for _, size := range []int{0, 1, 50, 120, 121} {
		room := bytes.Repeat([]byte{3}, size+10)
		before := slices.Clone(room)
		frame, _ := courier.Frame(room[:size])
		if !bytes.Equal(room, before) {
			t.Errorf("P2: Frame of %d bytes leaves %v", size, room)
		}
		want := slices.Clone(frame)
		scribble(room)
		if !bytes.Equal(frame, want) {
			t.Errorf("P2: when the payload is written into, its frame is %v", frame)
		}
		scribble(frame)
		again, _ := courier.Frame(before[:size])
		if !bytes.Equal(again, want) {
			t.Errorf("P2: when a frame is written into, the next one is %v", again)
		}
	}
}

// TestPayloadsAreNewMemory writes into each list that came out, and looks at
// the others, at what was handed in and at what comes out later.
func TestPayloadsAreNewMemory(t *testing.T) {
	source := rand.New(rand.NewSource(10))
	for range 200 {
		payloads := randomPayloads(source, 4, 20)
		data, next := framed(payloads...), framed([]byte("next"))
		d := courier.NewDeframer()
		chunk := slices.Concat(data, next[:5])
		before := slices.Clone(chunk)
		got, _ := d.Feed(chunk)
		if len(got) != len(payloads) {
			t.Fatalf("P6: Feed(%v) = %v", chunk, got)
		}
		for i := range got {
			scribble(got[i])
			if !sameLists(got[i+1:], payloads[i+1:]) {
				t.Fatalf("P2: when a payload is written into, others are %v, want %v", got[i+1:], payloads[i+1:])
			}
		}
		if !bytes.Equal(chunk, before) {
			t.Fatalf("P2: when payloads are written into, the bytes handed in are %v", chunk)
		}
		clear(got[:cap(got)])
		scribble(chunk)
		if rest, e := d.Feed(next[5:]); e != api.OK || !sameLists(rest, [][]byte{[]byte("next")}) {
			t.Fatalf("P2: when what came out and went in is written into, the next payloads are %q, %d", rest, e)
		}
	}
}

// TestDeframersApart feeds two by turns, and many at the same time.
func TestDeframersApart(t *testing.T) {
	source := rand.New(rand.NewSource(11))
	one, two := framed(randomPayloads(source, 6, 40)...), framed(randomPayloads(source, 6, 40)...)
	a, b := courier.NewDeframer(), courier.NewDeframer()
	var fromA, fromB [][]byte
	for i := range max(len(one), len(two)) {
		if i < len(one) {
			got, _ := a.Feed(one[i : i+1])
			fromA = append(fromA, got...)
		}
		if i < len(two) {
			got, _ := b.Feed(two[i : i+1])
			fromB = append(fromB, got...)
		}
	}
	if !bytes.Equal(framed(fromA...), one) || !bytes.Equal(framed(fromB...), two) {
		t.Errorf("P2: two deframers by turns give %v and %v", fromA, fromB)
	}
	var group sync.WaitGroup
	for start := range 6 {
		group.Go(func() {
			own := rand.New(rand.NewSource(int64(start)))
			for range 100 {
				feedByItself(t, framed(randomPayloads(own, 3, 120)...), randomCuts(own, one))
			}
		})
	}
	group.Wait()
}

func feedByItself(t *testing.T, data []byte, cuts []int) {
	d := courier.NewDeframer()
	begin := 0
	var back []byte
	for _, end := range append(cuts, len(data)) {
		end = max(begin, min(end, len(data)))
		payloads, _ := d.Feed(data[begin:end])
		begin = end
		for _, payload := range payloads {
			frame, _ := courier.Frame(payload)
			back = append(back, frame...)
		}
	}
	if !bytes.Equal(back, data) {
		t.Errorf("P2: beside others, the frames %v come back as %v", data, back)
	}
}
