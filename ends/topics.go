package ends

import (
	"slices"
	"strconv"
	"strings"

	"courier/schemas"
)

// maxDigits is how long the position in a cursor may be.
const maxDigits = 9

// topic has the last values of a stream of the schema, as bytes.
type topic struct {
	name, base string
	count      uint64 // values so far
	kept       [][]byte
	finished   bool
}

func topicsOf(items []schemas.Item) []*topic {
	var topics []*topic
	for _, item := range items {
		if item.Kind == schemas.Stream {
			topics = append(topics, &topic{name: item.Name.Text, base: item.Base.Text})
		}
	}
	return topics
}

func (t *topic) add(value []byte, retain int) {
	t.kept = append(t.kept, value)
	t.count++
	t.kept = slices.Delete(t.kept, 0, max(0, len(t.kept)-retain))
}

// first is the lowest position that is kept or still to come.
func (t *topic) first() uint64 {
	return t.count - uint64(len(t.kept)) + 1
}

// at gives a value that is kept.
func (t *topic) at(position uint64) []byte {
	return t.kept[position-t.first()]
}

func cursorOf(topic string, position uint64) string {
	return topic + "@" + strconv.FormatUint(position, 10)
}

// positionOf reads a cursor of a topic. It writes it anew, as only what comes out
// of that is the one way to write it.
func positionOf(topic, cursor string) (uint64, bool) {
	if cursor == "" {
		return 0, true
	}
	digits := strings.TrimPrefix(cursor, topic+"@")
	position, err := strconv.ParseUint(digits, 10, 64)
	return position, err == nil && len(digits) <= maxDigits && cursor == cursorOf(topic, position)
}
