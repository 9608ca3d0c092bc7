package courier_test

import (
	"encoding/binary"
	"encoding/hex"
	"math/big"
	"math/rand"
	"regexp"
	"slices"
	"strconv"
	"strings"

	"courier/api"
)

// A second way to work out what Encode and Decode answer: texts and bytes are
// read into a tree whatever the bounds, which are asked of the tree behind that.

type sheetField struct {
	number            uint64
	name, shape, base string
}

// sheet is what a right schema says of its types.
type sheet struct {
	enums    map[string][]string
	messages map[string][]sheetField
}

func sheetOf(schema string) sheet {
	s := sheet{map[string][]string{}, map[string][]sheetField{}}
	things := bookThing.FindAllString(schema, -1)
	for i := 0; i < len(things); i++ {
		if things[i] != "message" && things[i] != "enum" || things[min(i+2, len(things)-1)] != "{" {
			continue
		}
		end := i + slices.Index(things[i:], "}")
		if things[i] == "enum" {
			s.enums[things[i+1]] = things[i+3 : end]
		} else {
			s.messages[things[i+1]] = sheetFields(things[i+3 : end])
		}
		i = end
	}
	return s
}

func sheetFields(things []string) []sheetField {
	var fields []sheetField
	for len(things) > 0 {
		number, _ := strconv.ParseUint(things[0], 10, 64)
		field := sheetField{number: number, name: things[1]}
		if things = things[2:]; things[0] == "opt" || things[0] == "list" {
			field.shape, things = things[0], things[1:]
		}
		field.base, things = things[0], things[1:]
		fields = append(fields, field)
	}
	return fields
}

func (s sheet) has(base string) bool {
	return base == "int" || base == "bool" || base == "text" || s.enums[base] != nil || s.messages[base] != nil
}

// tree is a value: a leaf with its text and bytes, or a message or list.
type tree struct {
	leaf, list bool
	text       string
	data       []byte
	branches   []branch
}

// branch is a field of a message, or a value of a list. What is passed over has
// no name.
type branch struct {
	number uint64
	name   string
	tree   *tree
}

func (t *tree) deep() int {
	if t.leaf {
		return 0
	}
	deepest := 0
	for _, b := range t.branches {
		deepest = max(deepest, b.tree.deep())
	}
	return deepest + 1
}

// full tells whether a list has more values than may be.
func (t *tree) full() bool {
	if t.list && len(t.branches) > api.MaxItems {
		return true
	}
	return slices.ContainsFunc(t.branches, func(b branch) bool { return b.tree.full() })
}

func (t *tree) fits() bool { return t.deep() <= api.MaxNest && !t.full() }

func (t *tree) write() string {
	if t.leaf {
		return t.text
	}
	var texts []string
	for _, b := range t.branches {
		if t.list {
			texts = append(texts, b.tree.write())
		} else if b.name != "" {
			texts = append(texts, b.name+":"+b.tree.write())
		}
	}
	joined := strings.Join(texts, ",")
	if t.list {
		return "[" + joined + "]"
	}
	return "{" + joined + "}"
}

func (t *tree) bytes() []byte {
	if t.leaf {
		return t.data
	}
	var data []byte
	for _, b := range t.branches {
		inner := b.tree.bytes()
		if !t.list {
			data = binary.AppendUvarint(data, b.number)
		}
		data = binary.AppendUvarint(data, uint64(len(inner)))
		data = append(data, inner...)
	}
	return data
}

func (t *tree) encoded() ([]byte, api.Errno) {
	switch data := t.bytes(); {
	case len(t.write()) > api.MaxText:
		return nil, api.ErrLong
	case !t.fits():
		return nil, api.ErrValue
	case len(data) > api.MaxValue:
		return nil, api.ErrLong
	default:
		return data, api.OK
	}
}

func (t *tree) decoded() (string, api.Errno) {
	text := t.write()
	if len(t.bytes()) > api.MaxValue || !t.fits() || len(text) > api.MaxText {
		return "", api.ErrData
	}
	return text, api.OK
}

func intLeaf(n *big.Int) *tree {
	twice := new(big.Int).Lsh(n, 1)
	if n.Sign() < 0 {
		twice.Add(twice.Neg(twice), big.NewInt(-1))
	}
	return &tree{leaf: true, text: n.String(), data: binary.AppendUvarint(nil, twice.Uint64())}
}

func choiceLeaf(names []string, place int) *tree {
	return &tree{leaf: true, text: names[place], data: binary.AppendUvarint(nil, uint64(place))}
}

func textLeaf(data []byte) *tree {
	text := `"`
	for _, b := range data {
		if one := string([]byte{b}); strings.Contains(sheetPlain, one) {
			text += one
		} else {
			text += `\` + hex.EncodeToString([]byte{b})
		}
	}
	return &tree{leaf: true, text: text + `"`, data: data}
}

const sheetPlain = " !#$%&'()*+,-./0123456789:;<=>?@ABCDEFGHIJKLMNOPQRSTUVWXYZ[]^_`abcdefghijklmnopqrstuvwxyz{|}~"

var (
	sheetPiece  = regexp.MustCompile(`(?s)^(?:-?[0-9]+|[a-z][a-z0-9]*|"[^"]*"|.)`)
	sheetInt    = regexp.MustCompile(`^(0|-?[1-9][0-9]*)$`)
	sheetEscape = regexp.MustCompile(`\\([0-9a-f]{2})`)
)

var sheetBools = []string{"false", "true"}

// pieces cuts a text into what may not be cut further. All bytes of it stand in
// some piece.
func pieces(text string) []string {
	var all []string
	for text != "" {
		one := sheetPiece.FindString(text)
		all = append(all, one)
		text = text[len(one):]
	}
	return all
}

// sheetEncode is the second way of Encode.
func sheetEncode(schema, base, text string) ([]byte, api.Errno) {
	s := sheetOf(schema)
	if bookCheck(schema).e != api.OK {
		return nil, api.ErrSchema
	}
	if !s.has(base) {
		return nil, api.ErrType
	}
	if len(text) > api.MaxText {
		return nil, api.ErrLong
	}
	value, rest := s.readText(base, "", pieces(text))
	if value == nil || len(rest) > 0 {
		return nil, api.ErrValue
	}
	return value.encoded()
}

// readText gives nil, if no value stands there.
func (s sheet) readText(base, shape string, from []string) (*tree, []string) {
	if len(from) == 0 {
		return nil, nil
	}
	if shape == "list" {
		return s.readList(base, from)
	}
	if fields := s.messages[base]; fields != nil {
		return s.readMessage(fields, from)
	}
	return s.readLeaf(base, from[0]), from[1:]
}

func (s sheet) readLeaf(base, piece string) *tree {
	switch base {
	case "int":
		n, ok := new(big.Int).SetString(piece, 10)
		if !ok || !sheetInt.MatchString(piece) || !n.IsInt64() {
			return nil
		}
		return intLeaf(n)
	case "text":
		data := sheetEscape.ReplaceAllStringFunc(strings.Trim(piece, `"`), func(escape string) string {
			one, _ := hex.DecodeString(escape[1:])
			return string(one)
		})
		if leaf := textLeaf([]byte(data)); leaf.text == piece {
			return leaf
		}
		return nil
	}
	names := s.enums[base]
	if base == "bool" {
		names = sheetBools
	}
	if place := slices.Index(names, piece); place >= 0 {
		return choiceLeaf(names, place)
	}
	return nil
}

func (s sheet) readList(base string, from []string) (*tree, []string) {
	list := &tree{list: true}
	if from[0] != "[" || len(from) == 1 {
		return nil, nil
	}
	if from[1] == "]" {
		return list, from[2:]
	}
	for ahead := "["; len(from) > 0 && from[0] == ahead; ahead = "," {
		value, rest := s.readText(base, "", from[1:])
		if value == nil || len(rest) == 0 {
			return nil, nil
		}
		list.branches = append(list.branches, branch{tree: value})
		if from = rest; from[0] == "]" {
			return list, from[1:]
		}
	}
	return nil, nil
}

func (s sheet) readMessage(fields []sheetField, from []string) (*tree, []string) {
	message := &tree{}
	if from[0] != "{" || len(from) == 1 {
		return nil, nil
	}
	if from[1] != "}" {
		from = append([]string{","}, from[1:]...)
	} else {
		from = from[1:]
	}
	for _, field := range fields {
		if len(from) > 2 && from[0] == "," && from[1] == field.name && from[2] == ":" {
			value, rest := s.readText(field.base, field.shape, from[3:])
			if value == nil {
				return nil, nil
			}
			message.branches = append(message.branches, branch{field.number, field.name, value})
			from = rest
		} else if field.shape != "opt" {
			return nil, nil
		}
	}
	if len(from) == 0 || from[0] != "}" {
		return nil, nil
	}
	return message, from[1:]
}

// sheetDecode is the second way of Decode.
func sheetDecode(schema, base string, data []byte) (string, api.Errno) {
	s := sheetOf(schema)
	if bookCheck(schema).e != api.OK {
		return "", api.ErrSchema
	}
	if !s.has(base) {
		return "", api.ErrType
	}
	if len(data) > api.MaxValue {
		return "", api.ErrData
	}
	value := s.readBytes(base, "", data)
	if value == nil {
		return "", api.ErrData
	}
	return value.decoded()
}

func (s sheet) readBytes(base, shape string, data []byte) *tree {
	fields := s.messages[base]
	switch {
	case shape == "list":
		return s.listOf(base, data)
	case fields != nil:
		return s.messageOf(fields, data)
	case base == "text":
		return textLeaf(data)
	}
	n, size := binary.Uvarint(data)
	if size <= 0 || size != len(data) || len(binary.AppendUvarint(nil, n)) != size {
		return nil
	}
	if base == "int" {
		value := new(big.Int).SetUint64(n/2 + n%2)
		if n%2 == 1 {
			value.Neg(value)
		}
		return intLeaf(value)
	}
	names := s.enums[base]
	if base == "bool" {
		names = sheetBools
	}
	if n >= uint64(len(names)) {
		return nil
	}
	return choiceLeaf(names, int(n))
}

// cut takes numbers off data, and then as many bytes as the last one says.
func cut(data []byte, count int) ([]uint64, []byte, []byte) {
	var all []uint64
	for range count {
		n, size := binary.Uvarint(data)
		if size <= 0 || len(binary.AppendUvarint(nil, n)) != size {
			return nil, nil, nil
		}
		all, data = append(all, n), data[size:]
	}
	length := all[count-1]
	if length > uint64(len(data)) {
		return nil, nil, nil
	}
	return all, data[:length], data[length:]
}

func (s sheet) listOf(base string, data []byte) *tree {
	list := &tree{list: true}
	for len(data) > 0 {
		all, inner, rest := cut(data, 1)
		if all == nil {
			return nil
		}
		value := s.readBytes(base, "", inner)
		if value == nil {
			return nil
		}
		list.branches, data = append(list.branches, branch{tree: value}), rest
	}
	return list
}

func (s sheet) messageOf(fields []sheetField, data []byte) *tree {
	message := &tree{}
	missing := map[uint64]sheetField{}
	for _, field := range fields {
		missing[field.number] = field
	}
	for last := uint64(0); len(data) > 0; {
		all, inner, rest := cut(data, 2)
		if all == nil || all[0] <= last || all[0] > api.MaxNumber {
			return nil
		}
		value := &tree{leaf: true, data: inner}
		field, known := missing[all[0]]
		if known {
			value = s.readBytes(field.base, field.shape, inner)
		}
		if value == nil {
			return nil
		}
		delete(missing, all[0])
		message.branches = append(message.branches, branch{all[0], field.name, value})
		last, data = all[0], rest
	}
	for _, field := range missing {
		if field.shape != "opt" {
			return nil
		}
	}
	return message
}

// randomTypes gives a right schema. A message has plain fields of later
// messages only, so that none holds itself.
func randomTypes(source *rand.Rand) string {
	enums := []string{"enum e { a }", "enum e1 { ab abc a true }", "enum abcdefghijkl { abcdefghijkl mnopqrstuvwx int1 }"}
	messages := 1 + source.Intn(4)
	schema := enums[0] + enums[1] + enums[2]
	for i := range messages {
		schema += "message m" + strconv.Itoa(i) + "{"
		number := 0
		for f := range 1 + source.Intn(4) {
			number += 1 + source.Intn(3)*source.Intn(11)
			bases := []string{"int", "bool", "text", "e", "e1", "abcdefghijkl"}
			shape := []string{" ", " opt ", " opt ", " list "}[source.Intn(4)]
			for j := range messages {
				if shape != " " || j > i {
					bases = append(bases, "m"+strconv.Itoa(j), "m"+strconv.Itoa(j))
				}
			}
			schema += strconv.Itoa(number) + " x" + strings.Repeat("x", f) + shape + bases[source.Intn(len(bases))] + " "
		}
		schema += "}"
	}
	return schema
}

// randomTree gives a value of a base; left is how much deeper it gladly goes.
func (s sheet) randomTree(source *rand.Rand, base, shape string, left int) *tree {
	if shape == "list" {
		list := &tree{list: true}
		count := source.Intn(3)
		if source.Intn(20) == 0 {
			count = 14 + source.Intn(4)
		}
		if left <= 0 {
			count = 0
		}
		for range count {
			list.branches = append(list.branches, branch{tree: s.randomTree(source, base, "", left-1)})
		}
		return list
	}
	if fields := s.messages[base]; fields != nil {
		message := &tree{}
		for _, field := range fields {
			if field.shape != "opt" || source.Intn(8) < left {
				message.branches = append(message.branches, branch{field.number, field.name, s.randomTree(source, field.base, field.shape, left-1)})
			}
		}
		return message
	}
	return s.randomLeaf(source, base)
}

func (s sheet) randomLeaf(source *rand.Rand, base string) *tree {
	switch base {
	case "int":
		return intLeaf(big.NewInt(int64(source.Uint64()) >> source.Intn(64)))
	case "bool":
		return choiceLeaf(sheetBools, source.Intn(2))
	case "text":
		return textLeaf(randomBytes(source, source.Intn(5)*source.Intn(5)))
	}
	return choiceLeaf(s.enums[base], source.Intn(len(s.enums[base])))
}

func randomBytes(source *rand.Rand, count int) []byte {
	data := make([]byte, count)
	for i := range data {
		data[i] = byte(source.Intn(256))
	}
	return data
}

// withOthers puts fields that no schema has into some messages of a value.
func (t *tree) withOthers(source *rand.Rand) *tree {
	if t.leaf {
		return t
	}
	grown := &tree{list: t.list}
	last := uint64(0)
	for _, b := range append(slices.Clone(t.branches), branch{number: api.MaxNumber + 1}) {
		if !t.list && b.number > last+1 && source.Intn(2) == 0 {
			number := last + 1 + uint64(source.Intn(int(b.number-last-1)))
			grown.branches = append(grown.branches, branch{number, "", &tree{leaf: true, data: randomBytes(source, source.Intn(3))}})
		}
		if b.tree != nil {
			grown.branches = append(grown.branches, branch{b.number, b.name, b.tree.withOthers(source)})
		}
		last = b.number
	}
	return grown
}

// spoiled changes few places of a thing, by what stands in others, so that much
// of it stays right.
func spoiled(source *rand.Rand, data, others []byte) []byte {
	data = slices.Clone(data)
	for range 1 + source.Intn(2) {
		at := source.Intn(len(data) + 1)
		end := min(len(data), at+source.Intn(3))
		from := source.Intn(len(others) + 1)
		to := min(len(others), from+source.Intn(3))
		data = slices.Replace(data, at, end, others[from:to]...)
	}
	return data
}
