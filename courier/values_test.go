package courier_test

import (
	"bytes"
	"math/rand"
	"slices"
	"strconv"
	"strings"
	"sync"
	"testing"

	"courier/api"
	"courier/courier"
)

// looseSchema has messages that may be empty, names of which one begins with
// another, and messages and lists in one another in all ways.
const looseSchema = "enum e { a ab abc true int1 } message o { 1 x opt int 2 xx opt text 90 e opt e } message r { 3 r opt r 5 l list r 6 i opt int } " +
	"message p { 1 o o 2 b bool 3 e e } message ls { 1 t list text 2 o list o 4 b list bool 5 e list e }"

type valueCase struct {
	schema, base, text string
	data               []byte
}

type encodeCase struct {
	schema, base, text string
	want               api.Errno
}

type decodeCase struct {
	schema, base string
	data         []byte
	text         string
	want         api.Errno
}

// watched calls Decode with data in a list that has spare room, and tells if
// any of it was written into.
func watched(t *testing.T, schema, base string, data []byte) (string, api.Errno) {
	t.Helper()
	room := append(slices.Clone(data), 11, 22, 33)
	before := slices.Clone(room)
	text, e := courier.Decode(schema, base, room[:len(data)])
	if !bytes.Equal(room, before) {
		t.Errorf("P2: Decode(%s, %v) leaves %v", base, before, room)
	}
	return text, e
}

func runValueCases(t *testing.T, cases []valueCase) {
	t.Helper()
	for _, c := range cases {
		data, e := courier.Encode(c.schema, c.base, c.text)
		if e != api.OK || !bytes.Equal(data, c.data) {
			t.Errorf("P4: Encode(%s, %s) = %v, %d, want %v", c.base, c.text, data, e, c.data)
		}
		text, e := watched(t, c.schema, c.base, c.data)
		if e != api.OK || text != c.text {
			t.Errorf("P5: Decode(%s, %v) = %q, %d, want %q", c.base, c.data, text, e, c.text)
		}
	}
}

func runEncodeCases(t *testing.T, cases []encodeCase) {
	t.Helper()
	for _, c := range cases {
		data, e := courier.Encode(c.schema, c.base, c.text)
		if e != c.want || e != api.OK && data != nil {
			t.Errorf("P4: Encode(%.60q, %s, %.80q) = %v, %d, want %d", c.schema, c.base, c.text, data, e, c.want)
		}
	}
}

func runDecodeCases(t *testing.T, cases []decodeCase) {
	t.Helper()
	for _, c := range cases {
		text, e := watched(t, c.schema, c.base, c.data)
		if e != c.want || text != c.text {
			t.Errorf("P5: Decode(%.60q, %s, %v) = %q, %d, want %q, %d", c.schema, c.base, c.data, text, e, c.text, c.want)
		}
	}
}

func TestValueExamples(t *testing.T) {
	runValueCases(t, []valueCase{
		{exampleSchema, "int", "-3", []byte{5}},
		{exampleSchema, "int", "300", []byte{216, 4}},
		{exampleSchema, "color", "green", []byte{1}},
		{exampleSchema, "text", `"a\0a"`, []byte{97, 10}},
		{exampleSchema, "point", "{x:1,y:-1,more:[]}", []byte{1, 1, 2, 2, 1, 1, 7, 0}},
		{exampleSchema, "point", `{x:1,y:-1,tag:"",more:[{x:0,y:0,more:[]}]}`, []byte{1, 1, 2, 2, 1, 1, 5, 0, 7, 9, 8, 1, 1, 0, 2, 1, 0, 7, 0}},
	})
	runEncodeCases(t, []encodeCase{
		{exampleSchema, "point", "{y:1,x:1,more:[]}", api.ErrValue},
		{exampleSchema, "int", "+3", api.ErrValue},
		{exampleSchema, "int", "01", api.ErrValue},
		{exampleSchema, "point", "{x:1, y:1,more:[]}", api.ErrValue},
	})
	runDecodeCases(t, []decodeCase{
		{exampleSchema, "point", []byte{1, 1, 2, 2, 1, 1, 3, 2, 9, 9, 7, 0}, "{x:1,y:-1,more:[]}", api.OK},
		{exampleSchema, "point", []byte{1, 1, 2, 2, 1, 1, 3, 2, 9, 9}, "", api.ErrData},
		{exampleSchema, "point", []byte{2, 1, 1, 1, 1, 2, 3, 2, 9, 9, 7, 0}, "", api.ErrData},
		{exampleSchema, "int", []byte{128, 0}, "", api.ErrData},
	})
}

func TestLeaves(t *testing.T) {
	nines := bytes.Repeat([]byte{255}, 8)
	runValueCases(t, []valueCase{
		{"", "int", "0", []byte{0}}, {"", "int", "-1", []byte{1}}, {"", "int", "1", []byte{2}}, {"", "int", "10", []byte{20}},
		{"", "int", "63", []byte{126}}, {"", "int", "-64", []byte{127}}, {"", "int", "64", []byte{128, 1}}, {"", "int", "-65", []byte{129, 1}},
		{"", "int", "8191", []byte{254, 127}}, {"", "int", "-8192", []byte{255, 127}}, {"", "int", "8192", []byte{128, 128, 1}},
		{"", "int", "9223372036854775807", slices.Concat([]byte{254}, nines, []byte{1})},
		{"", "int", "-9223372036854775808", slices.Concat([]byte{255}, nines, []byte{1})},
		{"", "int", "-9223372036854775807", slices.Concat([]byte{253}, nines, []byte{1})},
		{"", "int", "4611686018427387904", append(bytes.Repeat([]byte{128}, 9), 1)},
		{"", "bool", "false", []byte{0}}, {"", "bool", "true", []byte{1}},
		{"", "text", `""`, nil}, {"", "text", `" "`, []byte{32}}, {"", "text", `"~"`, []byte{126}}, {"", "text", `"\1f"`, []byte{31}}, {"", "text", `"\7f"`, []byte{127}},
		{"", "text", `"\00\0a\80\ff"`, []byte{0, 10, 128, 255}}, {"", "text", `"\22"`, []byte{'"'}}, {"", "text", `"\5c"`, []byte{'\\'}}, {"", "text", `"\5c61"`, []byte(`\61`)},
		{"", "text", `"[{',:}]#"`, []byte("[{',:}]#")}, {"", "text", `"\c3\a9"`, []byte("é")},
		{looseSchema, "e", "a", []byte{0}}, {looseSchema, "e", "ab", []byte{1}}, {looseSchema, "e", "abc", []byte{2}}, {looseSchema, "e", "true", []byte{3}}, {looseSchema, "e", "int1", []byte{4}},
		// A stream and a call may have the name of a type, and an enum that of its NAME.
		{"stream a int call b int int enum a { a } message b { 1 b int }", "a", "a", []byte{0}},
		{"stream a int call b int int enum a { a } message b { 1 b int }", "b", "{b:7}", []byte{1, 1, 14}},
	})
	for b := range 256 {
		text, e := courier.Decode("", "text", []byte{byte(b)})
		want, _ := sheetDecode("", "text", []byte{byte(b)})
		data, f := courier.Encode("", "text", text)
		if e != api.OK || f != api.OK || text != want || !bytes.Equal(data, []byte{byte(b)}) {
			t.Errorf("P4, P5: the text of the byte %d: %q, %d, want %q; back: %v, %d", b, text, e, want, data, f)
		}
	}
}

// TestManyChoices: places of an enum above 127 need two bytes.
func TestManyChoices(t *testing.T) {
	var names []string
	for i := range 135 {
		letter := string([]byte{byte('a' + i%26)})
		names = append(names, letter+strings.Trim(strconv.Itoa(i/26), "0"))
	}
	schema := "enum e { " + strings.Join(names, " ") + "}"
	runValueCases(t, []valueCase{
		{schema, "e", names[127], []byte{127}}, {schema, "e", names[128], []byte{128, 1}}, {schema, "e", names[134], []byte{134, 1}},
	})
	runDecodeCases(t, []decodeCase{
		{schema, "e", []byte{135, 1}, "", api.ErrData}, {schema, "e", []byte{255, 255, 255, 255, 255, 255, 255, 255, 255, 1}, "", api.ErrData},
		{schema, "e", []byte{128, 128, 1}, "", api.ErrData},
	})
}

func TestMessagesAndLists(t *testing.T) {
	runValueCases(t, []valueCase{
		{looseSchema, "o", "{}", nil}, {looseSchema, "o", "{x:0}", []byte{1, 1, 0}}, {looseSchema, "o", `{xx:""}`, []byte{2, 0}}, {looseSchema, "o", "{e:abc}", []byte{90, 1, 2}},
		{looseSchema, "o", `{x:-1,xx:"x:1"}`, []byte{1, 1, 1, 2, 3, 'x', ':', '1'}}, {looseSchema, "o", `{x:1,e:a}`, []byte{1, 1, 2, 90, 1, 0}}, {looseSchema, "o", `{xx:"",e:a}`, []byte{2, 0, 90, 1, 0}},
		{looseSchema, "o", `{x:64,xx:"}",e:true}`, []byte{1, 2, 128, 1, 2, 1, '}', 90, 1, 3}},
		{looseSchema, "p", "{o:{},b:true,e:true}", []byte{1, 0, 2, 1, 1, 3, 1, 3}}, {looseSchema, "p", "{o:{x:1},b:false,e:a}", []byte{1, 3, 1, 1, 2, 2, 1, 0, 3, 1, 0}},
		{looseSchema, "r", "{l:[]}", []byte{5, 0}}, {looseSchema, "r", "{l:[{l:[]}]}", []byte{5, 3, 2, 5, 0}}, {looseSchema, "r", "{r:{l:[]},l:[],i:1}", []byte{3, 2, 5, 0, 5, 0, 6, 1, 2}},
		{looseSchema, "r", "{l:[{l:[]},{l:[],i:0}]}", []byte{5, 9, 2, 5, 0, 5, 5, 0, 6, 1, 0}},
		{looseSchema, "ls", "{t:[],o:[],b:[],e:[]}", []byte{1, 0, 2, 0, 4, 0, 5, 0}},
		{looseSchema, "ls", `{t:["","]",""],o:[{},{x:0},{}],b:[true,false],e:[abc]}`, []byte{1, 4, 0, 1, ']', 0, 2, 6, 0, 3, 1, 1, 0, 0, 4, 4, 1, 1, 1, 0, 5, 2, 1, 2}},
	})
}

func TestNoValue(t *testing.T) {
	long := strings.Repeat("1", api.MaxText)
	runEncodeCases(t, []encodeCase{
		{"stream", "int", "1", api.ErrSchema}, {"stream a b", "int", "1", api.ErrSchema}, {strings.Repeat(" ", api.MaxSchema+1), "int", "1", api.ErrSchema}, {"message a { 1 x a }", "a", "{x:{}}", api.ErrSchema},
		{"", "", "1", api.ErrType}, {"", "Int", "1", api.ErrType}, {"", "int ", "1", api.ErrType}, {"", "opt int", "1", api.ErrType}, {"", "list int", "[1]", api.ErrType}, {"", "opt", "1", api.ErrType}, {"", "list", "[]", api.ErrType},
		{"", "message", "{}", api.ErrType}, {exampleSchema, "ticks", "1", api.ErrType}, {exampleSchema, "add", "1", api.ErrType}, {exampleSchema, "red", "red", api.ErrType}, {exampleSchema, "x", "1", api.ErrType}, {exampleSchema, strings.Repeat("x", 1<<20), "1", api.ErrType},
		// Of several errors the first one that P4 names.
		{"stream", "", long + "1", api.ErrSchema}, {"", "", long + "1", api.ErrType}, {"", "int", long + "1", api.ErrLong}, {"", "int", long, api.ErrValue}, {"", "text", `"` + long, api.ErrLong},
		{"", "int", strings.Repeat("1", 1<<20), api.ErrLong}, {exampleSchema, "point", strings.Repeat("{", 1<<20), api.ErrLong}, {exampleSchema, "point", strings.Repeat("{", api.MaxText), api.ErrValue},
	})
	for base, texts := range map[string][]string{
		"int":  {"", " ", "-", "--1", "+3", "+0", "01", "00", "-0", "-01", "1 ", " 1", "1-", "1-1", "1.0", "1e3", "0x1", "1_0", "9223372036854775808", "-9223372036854775809", "18446744073709551616", "12345678901234567890123", "1\n", "1\x00", "१", `"1"`, "{1}", "true", "1,1", "1}"},
		"bool": {"", "True", "TRUE", "t", "tru", "truee", "true1", "truefalse", "1", "0", " true", "true ", `"true"`, "false,true", "a"},
		"text": {"", `"`, `a`, `'a'`, `"a`, `a"`, `"a"b`, `"a""`, `""""`, `"""`, `"\"`, `"\""`, `"\0"`, `"\0`, `"\`, `"\00`, `"\0A"`, `"\0g"`, `"\g0"`, `"\A0"`, `"\FF"`, `"\61"`, `"\20"`, `"\7e"`, `"\n"`, `"\\"`, `"\x00"`, `"\+1"`, `"\ 1"`, `"\5C"`,
			"\"\n\"", "\"\t\"", "\"\x00\"", "\"\x7f\"", "\"\xff\"", `"é"`, `"a" `, ` "a"`, "\"\x1f\"", "\"\\0\"1"},
		"e": {"", "b", "A", "abcd", "a ", " a", "aa", "a1", "0", `"a"`, "true1", "int", "a,ab", "e"},
		"o": {"", "{", "}", "{}}", "{}{}", "{} ", " {}", "{ }", "[]", "{,}", "{x:1,}", "{,x:1}", "{x:1", "{x:}", "{x}", "{:1}", "{x1}", "x:1", "{x=1}", "{x:1;e:a}", `{x:1xx:""}`, `{x:1,,xx:""}`, `{xx:"",x:1}`, "{e:a,x:1}", "{x:1,x:1}", "{x:1,x:2}", "{y:1}", "{x:1,y:1}",
			"{x: 1}", "{x :1}", "{ x:1}", "{x:1 }", "{x:1, e:a}", "{x:1 ,e:a}", "{x:01}", "{x:true}", `{x:"1"}`, "{x:null}", "{xx:1}", "{X:1}", "{x:[1]}", "{x:{}}", "{1:1}", `{"x":1}`, "{x:1}\n", "{e:e}", "{e:2}"},
		"p":  {"{}", "{o:{},b:true}", "{b:true,e:a}", "{o:{},e:a}", "{o:{},b:true,e:a,}", "{o:,b:true,e:a}", "{o:{},b:true,e:a", "{o:{},b:true,b:true,e:a}", "{o:{x:1,b:true,e:a}", "{o:{y:1},b:true,e:a}", "{b:true,o:{},e:a}", "{o:[],b:true,e:a}"},
		"r":  {"{}", "{i:1}", "{l:[],r:{l:[]}}", "{l:[}", "{l:]}", "{l:{}}", "{l:[{}]}", "{l:[[]]}", "{l:[]]}", "{r:{},l:[]}", "{l:{l:[]}}", "{l:[],}", "{l:[],i:}", "{l}", "{l:}"},
		"ls": {`{t:[,],o:[],b:[],e:[]}`, `{t:["",],o:[],b:[],e:[]}`, `{t:[,""],o:[],b:[],e:[]}`, `{t:["",,""],o:[],b:[],e:[]}`, `{t:["" ""],o:[],b:[],e:[]}`, `{t:[""""],o:[],b:[],e:[]}`, `{t:["", ""],o:[],b:[],e:[]}`, `{t:[ ],o:[],b:[],e:[]}`, `{t:[1],o:[],b:[],e:[]}`, `{t:[],o:[],b:[truefalse],e:[]}`, `{t:[],o:[{}{}],b:[],e:[]}`, `{t:[],o:[],b:[],e:[d]}`, `{t:[],o:[],b:[]}`, `{t:[],o:[],b:[],e:[a}`, `{t:"",o:[],b:[],e:[]}`},
	} {
		for _, text := range texts {
			runEncodeCases(t, []encodeCase{{looseSchema, base, text, api.ErrValue}})
		}
	}
}

func TestNoData(t *testing.T) {
	nines := bytes.Repeat([]byte{255}, 9)
	runDecodeCases(t, []decodeCase{
		{"stream", "int", []byte{0}, "", api.ErrSchema}, {"stream a b", "int", []byte{0}, "", api.ErrSchema}, {strings.Repeat(" ", api.MaxSchema+1), "int", []byte{0}, "", api.ErrSchema},
		{"", "", []byte{0}, "", api.ErrType}, {"", "opt", []byte{0}, "", api.ErrType}, {"", "list int", nil, "", api.ErrType}, {exampleSchema, "ticks", []byte{0}, "", api.ErrType}, {exampleSchema, "add", nil, "", api.ErrType}, {exampleSchema, "red", []byte{0}, "", api.ErrType},
		// Of several errors the first one that P5 names.
		{"stream", "", make([]byte, 65), "", api.ErrSchema}, {"", "x", make([]byte, 65), "", api.ErrType}, {"", "text", make([]byte, 1<<20), "", api.ErrData},
	})
	for base, all := range map[string][][]byte{
		"int":  {nil, {128}, {255}, {128, 0}, {129, 128, 0}, {0, 0}, {2, 1}, {128, 1, 0}, slices.Concat(nines, []byte{2}), slices.Concat(nines, []byte{127}), slices.Concat(nines, []byte{129, 1}), slices.Concat(nines, nines), bytes.Repeat([]byte{128}, 64), append(bytes.Repeat([]byte{128}, 63), 1)},
		"bool": {nil, {2}, {255}, {0, 0}, {1, 1}, {128, 0}, {129, 0}, {128, 1}, {'t', 'r', 'u', 'e'}},
		"e":    {nil, {5}, {6}, {127}, {128, 0}, {129, 0}, {1, 0}, {128, 1}, {'a'}, slices.Concat(nines, []byte{1})},
		"o": {{0, 0}, {1}, {1, 0}, {1, 1}, {1, 2, 0}, {1, 2, 0, 0}, {129, 0, 1, 0}, {1, 129, 0, 0}, {1, 1, 128}, {1, 2, 128, 0}, {2, 1}, {2, 0, 1, 1, 0}, {1, 1, 0, 1, 1, 0}, {2, 0, 2, 0}, {90, 1, 5}, {90, 0}, {100, 0}, {227, 0, 0}, {228, 0, 0}, {128, 1, 0}, {99, 0, 99, 0}, {98, 0, 97, 0}, {3, 0, 1, 1, 0}, {3}, {3, 1}, {3, 2, 0}, {131, 0, 0}, {3, 128, 0},
			{3, 128}, {131}, {3, 1, 0, 3, 0}, {0}, {1, 1, 0, 0}, {1, 1, 0, 0, 0}, slices.Concat(nines, []byte{1, 0}), slices.Concat([]byte{3}, nines, []byte{1}), slices.Concat([]byte{3}, nines, []byte{2}), {129, 1, 0}, {3, 129, 0, 7}},
		"p":  {nil, {1, 0, 2, 1, 1}, {2, 1, 1, 3, 1, 0}, {1, 0, 3, 1, 0}, {1, 1, 0, 2, 1, 1, 3, 1, 0}, {1, 3, 1, 1, 2, 2, 1, 2, 3, 1, 0}, {1, 2, 1, 1, 2, 1, 1, 3, 1, 0}, {2, 1, 1, 1, 0, 3, 1, 0}},
		"r":  {nil, {6, 1, 2}, {3, 0, 5, 0}, {5, 1, 0}, {5, 1, 1}, {5, 2, 2, 5}, {5, 2, 1, 5}, {5, 3, 3, 5, 0}, {5, 3, 1, 5, 0}, {5, 3, 130, 0, 5}, {5, 4, 130, 0, 5, 0}, {5, 2, 128, 0}, {5, 0, 3, 2, 5, 0}, {3, 2, 5, 0}, {5, 0, 6, 0}},
		"ls": {{1, 0, 2, 0, 4, 0}, {1, 0, 2, 0, 4, 1, 1, 5, 0}, {1, 0, 2, 0, 4, 1, 0, 5, 0}, {1, 0, 2, 0, 4, 2, 1, 2, 5, 0}, {1, 0, 2, 0, 4, 3, 2, 0, 0, 5, 0}, {1, 0, 2, 1, 1, 4, 0, 5, 0}, {1, 1, 1, 2, 0, 4, 0, 5, 0}, {1, 0, 2, 0, 4, 0, 5, 2, 1, 5}},
	} {
		for _, data := range all {
			runDecodeCases(t, []decodeCase{{looseSchema, base, data, "", api.ErrData}})
		}
	}
}

func TestFieldsThatArePassedOver(t *testing.T) {
	runDecodeCases(t, []decodeCase{
		{looseSchema, "o", []byte{3, 0}, "{}", api.OK}, {looseSchema, "o", []byte{99, 0}, "{}", api.OK}, {looseSchema, "o", []byte{89, 1, 0, 91, 2, 128, 128}, "{}", api.OK},
		{looseSchema, "o", []byte{1, 1, 2, 3, 1, 255, 4, 0, 90, 1, 1}, "{x:1,e:ab}", api.OK}, {looseSchema, "o", []byte{3, 5, 1, 1, 1, 1, 1}, "{}", api.OK},
		{exampleSchema, "point", []byte{1, 1, 2, 2, 1, 1, 3, 0, 4, 0, 5, 0, 6, 0, 7, 0, 8, 0, 99, 0}, `{x:1,y:-1,tag:"",more:[]}`, api.OK},
		// Ahead of the known ones.
		{looseSchema, "r", []byte{1, 1, 7, 2, 0, 5, 0}, "{l:[]}", api.OK}, {looseSchema, "r", []byte{1, 0, 3, 2, 5, 0, 5, 0}, "{r:{l:[]},l:[]}", api.OK},
		// In messages within messages and lists.
		{looseSchema, "r", []byte{3, 6, 4, 2, 9, 9, 5, 0, 5, 0}, "{r:{l:[]},l:[]}", api.OK}, {looseSchema, "r", []byte{5, 12, 4, 1, 0, 5, 0, 6, 5, 0, 6, 1, 2, 7}, "", api.ErrData},
		{looseSchema, "r", []byte{5, 13, 4, 1, 0, 5, 0, 7, 5, 0, 6, 1, 2, 9, 0}, "{l:[{l:[]},{l:[],i:1}]}", api.OK}, {looseSchema, "p", []byte{1, 2, 50, 0, 2, 1, 1, 3, 1, 0}, "{o:{},b:true,e:a}", api.OK},
		{looseSchema, "p", []byte{1, 7, 1, 1, 2, 3, 0, 99, 0, 2, 1, 1, 3, 1, 0, 4, 0}, "{o:{x:1},b:true,e:a}", api.OK}, {looseSchema, "p", []byte{1, 2, 100, 0, 2, 1, 1, 3, 1, 0}, "", api.ErrData},
		{looseSchema, "p", []byte{1, 4, 50, 0, 50, 0, 2, 1, 1, 3, 1, 0}, "", api.ErrData}, {looseSchema, "ls", []byte{1, 0, 2, 6, 2, 3, 0, 2, 99, 0, 4, 0, 5, 0}, "{t:[],o:[{},{}],b:[],e:[]}", api.OK},
		{looseSchema, "ls", []byte{1, 0, 2, 0, 3, 3, 1, 2, 3, 4, 0, 5, 0}, "{t:[],o:[],b:[],e:[]}", api.OK},
		// What stands in them is not looked at, nor counted as messages and lists.
		{"message m { 1 o opt m }", "m", []byte{2, 14, 1, 12, 1, 10, 1, 8, 1, 6, 1, 4, 1, 2, 1, 0}, "{}", api.OK},
		// They count for MaxValue.
		{looseSchema, "o", append([]byte{3, 62}, make([]byte, 62)...), "{}", api.OK}, {looseSchema, "o", append([]byte{3, 63}, make([]byte, 63)...), "", api.ErrData},
	})
	// Where each field of a value is known to one schema, the other one reads the rest.
	data, _ := courier.Encode("message m { 1 a int 2 b text 50 c list m 99 d bool }", "m", `{a:1,b:"b",c:[{a:2,b:"",c:[],d:true}],d:false}`)
	runDecodeCases(t, []decodeCase{
		{"message m { 1 a int }", "m", data, "{a:1}", api.OK}, {"message m { 2 a text }", "m", data, `{a:"b"}`, api.OK}, {"message m { 50 a list m 60 b opt m }", "m", data, "{a:[{a:[]}]}", api.OK},
		{"message m { 50 a list n } message n { 99 b bool }", "m", data, "{a:[{b:true}]}", api.OK}, {"message m { 3 a opt m 98 b opt m }", "m", data, "{}", api.OK}, {"message m { 3 a list m }", "m", data, "", api.ErrData},
	})
}

func TestMaxValue(t *testing.T) {
	for count, want := range map[int]api.Errno{63: api.OK, 64: api.OK, 65: api.ErrLong, 130: api.ErrLong, 398: api.ErrLong} {
		letters := strings.Repeat("a", count)
		runEncodeCases(t, []encodeCase{
			{"", "text", `"` + letters + `"`, want}, {"", "text", `"` + letters + `x`, api.ErrValue},
		})
		read := decodeCase{"", "text", []byte(letters), `"` + letters + `"`, api.OK}
		if want != api.OK {
			read.text, read.want = "", api.ErrData
		}
		runDecodeCases(t, []decodeCase{read})
	}
	inner := strings.Repeat("a", 62)
	runValueCases(t, []valueCase{
		{"message m { 1 t text }", "m", `{t:"` + inner + `"}`, append([]byte{1, 62}, inner...)},
		{"", "text", `"` + strings.Repeat(`\00`, 64) + `"`, make([]byte, 64)},
	})
	runEncodeCases(t, []encodeCase{
		{"message m { 1 t text }", "m", `{t:"` + inner + `a"}`, api.ErrLong}, {"message m { 1 t list text }", "m", `{t:["` + inner + `"]}`, api.ErrLong}, {"message m { 1 t list text }", "m", `{t:["` + inner[1:] + `"]}`, api.OK},
		{"message m { 1 t text 2 u text }", "m", `{t:"` + inner[:30] + `",u:"` + inner[:30] + `"}`, api.OK}, {"message m { 1 t text 2 u text }", "m", `{t:"` + inner[:30] + `",u:"` + inner[:31] + `"}`, api.ErrLong},
		// No value, and too many bytes ahead of that place.
		{"message m { 1 t text 2 u int }", "m", `{t:"` + inner + inner + `",u:01}`, api.ErrValue}, {"", "text", `"` + strings.Repeat(`\00`, 65) + `"`, api.ErrLong}, {"", "text", `"` + strings.Repeat(`\00`, 132) + `"`, api.ErrLong},
		{"", "text", `"` + strings.Repeat(`\00`, 133) + `"`, api.ErrLong}, {"", "text", `"` + strings.Repeat(`\00`, 132) + `\`, api.ErrValue},
	})
	runDecodeCases(t, []decodeCase{{"message m { 1 t text }", "m", append([]byte{1, 63}, make([]byte, 63)...), "", api.ErrData}})
}

// TestMaxText: two lists of an enum, of 64 bytes and some 400 of text.
func TestMaxText(t *testing.T) {
	list := func(count int) (string, []byte) {
		name := strings.Repeat("n", api.MaxName)
		return "[" + strings.TrimSuffix(strings.Repeat(name+",", count), ",") + "]", bytes.Repeat([]byte{1, 0}, count)
	}
	front, frontData := list(16)
	back, backData := list(14)
	data := slices.Concat([]byte{1, 32}, frontData, []byte{2, 28}, backData)
	for names, want := range map[[2]string]api.Errno{{"a", "b"}: api.OK, {"a", "bb"}: api.OK, {"aa", "bb"}: api.ErrLong, {"aaaaaaaaaaaa", "bbbbbbbbbbbb"}: api.ErrLong} {
		schema := "enum e { nnnnnnnnnnnn } message m { 1 " + names[0] + " list e 2 " + names[1] + " list e }"
		text := "{" + names[0] + ":" + front + "," + names[1] + ":" + back + "}"
		if (len(text) > api.MaxText) != (want == api.ErrLong) || names[1] == "bb" && names[0] == "a" && len(text) != api.MaxText {
			t.Fatalf("%q has %d bytes", text, len(text))
		}
		if want == api.OK {
			runValueCases(t, []valueCase{{schema, "m", text, data}})
		} else {
			runEncodeCases(t, []encodeCase{{schema, "m", text, api.ErrLong}})
			runDecodeCases(t, []decodeCase{{schema, "m", data, "", api.ErrData}})
		}
	}
}

func TestMaxItems(t *testing.T) {
	const schema = "message m { 1 l list int 2 m list m }"
	for count := range 20 {
		zeros := strings.TrimSuffix(strings.Repeat("0,", count), ",")
		flat := valueCase{schema, "m", "{l:[" + zeros + "],m:[]}", slices.Concat([]byte{1, byte(2 * count)}, bytes.Repeat([]byte{1, 0}, count), []byte{2, 0})}
		inner := valueCase{schema, "m", "{l:[],m:[" + flat.text + "]}", slices.Concat([]byte{1, 0, 2, byte(len(flat.data) + 1), byte(len(flat.data))}, flat.data)}
		for _, c := range []valueCase{flat, inner} {
			if count <= api.MaxItems {
				runValueCases(t, []valueCase{c})
				continue
			}
			runEncodeCases(t, []encodeCase{{c.schema, c.base, c.text, api.ErrValue}})
			runDecodeCases(t, []decodeCase{{c.schema, c.base, c.data, "", api.ErrData}})
		}
	}
	// Ahead of MaxValue: more than may be of more bytes than may be.
	runEncodeCases(t, []encodeCase{
		{schema, "m", "{l:[" + strings.Repeat("99999999,", 16) + "1],m:[]}", api.ErrValue}, {schema, "m", "{l:[" + strings.Repeat("99999999,", 15) + "1],m:[]}", api.ErrLong},
	})
	// Values without bytes, of which as many as there are bytes would go in.
	runDecodeCases(t, []decodeCase{
		{"message m { 1 t list text }", "m", append([]byte{1, 16}, make([]byte, 16)...), `{t:[` + strings.Repeat(`"",`, 15) + `""]}`, api.OK},
		{"message m { 1 t list text }", "m", append([]byte{1, 17}, make([]byte, 17)...), "", api.ErrData}, {"message m { 1 t list text }", "m", append([]byte{1, 62}, make([]byte, 62)...), "", api.ErrData},
	})
}

// nest gives a message in so many others.
func nest(steps int) (string, []byte) {
	text, data := "{i:1}", []byte{3, 1, 2}
	for range steps {
		text, data = "{m:"+text+"}", append([]byte{1, byte(len(data))}, data...)
	}
	return text, data
}

func TestMaxNest(t *testing.T) {
	const schema = "message n { 1 m opt n 3 i opt int }"
	const lists = "message n { 1 m opt n 2 l list n 3 i opt int }"
	for steps := range 10 {
		text, data := nest(steps)
		if steps < api.MaxNest {
			runValueCases(t, []valueCase{{schema, "n", text, data}})
			continue
		}
		runEncodeCases(t, []encodeCase{{schema, "n", text, api.ErrValue}})
		runDecodeCases(t, []decodeCase{{schema, "n", data, "", api.ErrData}})
	}
	// An empty list is as deep as a full one, and a message or list at fault need not be the first.
	for text, want := range map[string]api.Errno{
		"{l:[{l:[{l:[]}]}]}":                                  api.OK,
		"{m:{l:[{l:[]}],i:1},l:[{l:[{l:[],i:9}]}]}":           api.OK,
		"{m:{l:[{l:[{l:[]}]}]},l:[]}":                         api.ErrValue,
		"{l:[{l:[{l:[]}]},{m:{l:[{l:[]}]},l:[]}]}":            api.ErrValue,
		"{l:[{m:{l:[{l:[]}]},l:[]}]}":                         api.ErrValue,
		"{l:[{m:{m:{l:[]},l:[]},l:[]}]}":                      api.OK,
		"{m:{m:{m:{m:{l:[]},l:[]},l:[]},l:[]},l:[]}":          api.OK,
		"{m:{m:{m:{m:{m:{l:[]},l:[]},l:[]},l:[]},l:[]},l:[]}": api.ErrValue,
		"{m:{m:{m:{m:{l:[{l:[]}]},l:[]},l:[]},l:[]},l:[]}":    api.ErrValue,
	} {
		runEncodeCases(t, []encodeCase{{lists, "n", text, want}})
		value, _ := sheetOf(lists).readText("n", "", pieces(text))
		if want == api.OK {
			runDecodeCases(t, []decodeCase{{lists, "n", value.bytes(), text, api.OK}})
		} else {
			runDecodeCases(t, []decodeCase{{lists, "n", value.bytes(), "", api.ErrData}})
		}
	}
	// Messages that must be within one another deeper than may be have no value.
	chain := "message g { 1 x opt int }"
	for c := byte('a'); c < 'g'; c++ {
		chain += "message " + string([]byte{c}) + " { 1 x " + string([]byte{c + 1}) + " }"
	}
	runValueCases(t, []valueCase{{chain, "b", "{x:{x:{x:{x:{x:{}}}}}}", []byte{1, 8, 1, 6, 1, 4, 1, 2, 1, 0}}})
	runEncodeCases(t, []encodeCase{{chain, "a", "{x:{x:{x:{x:{x:{x:{}}}}}}}", api.ErrValue}})
	runDecodeCases(t, []decodeCase{{chain, "a", []byte{1, 10, 1, 8, 1, 6, 1, 4, 1, 2, 1, 0}, "", api.ErrData}})
}

// TestValuesByTheSheet holds Encode and Decode against a second way to work out
// their answers, at made-up values and at such that are spoiled.
func TestValuesByTheSheet(t *testing.T) {
	source := rand.New(rand.NewSource(3))
	encoded, decoded := map[api.Errno]int{}, map[api.Errno]int{}
	for range 4000 {
		schema := randomTypes(source)
		s := sheetOf(schema)
		bases := []string{"int", "bool", "text", "e", "e1", "abcdefghijkl", "m0", "m0", "m0", "m0", "m0", "m0"}
		base := bases[source.Intn(len(bases))]
		value := s.randomTree(source, base, "", 1+source.Intn(7))
		text, data := value.write(), value.withOthers(source).bytes()
		for i := range 6 {
			e := agreeOnText(t, schema, base, text)
			f := agreeOnData(t, schema, base, data)
			encoded[e]++
			decoded[f]++
			if i == 0 && value.fits() && e == api.OK {
				agreeOnBoth(t, schema, base, text)
			}
			text = string(spoiled(source, []byte(value.write()), []byte(value.write()+`,:"\01af]}`)))
			data = spoiled(source, value.withOthers(source).bytes(), append(value.bytes(), 0, 1, 2, 128, 99, 100, 255))
		}
	}
	for e, least := range map[api.Errno]int{api.OK: 4000, api.ErrValue: 4000, api.ErrLong: 200} {
		if encoded[e] < least {
			t.Errorf("only %d of the texts answer %d: they try too little", encoded[e], e)
		}
	}
	for e, least := range map[api.Errno]int{api.OK: 4000, api.ErrData: 4000} {
		if decoded[e] < least {
			t.Errorf("only %d of the bytes answer %d: they try too little", decoded[e], e)
		}
	}
}

func agreeOnText(t *testing.T, schema, base, text string) api.Errno {
	t.Helper()
	data, e := courier.Encode(schema, base, text)
	want, f := sheetEncode(schema, base, text)
	if e != f || !bytes.Equal(data, want) || e != api.OK && data != nil {
		t.Fatalf("P4: Encode(%q, %s, %q) = %v, %d, want %v, %d", schema, base, text, data, e, want, f)
	}
	return e
}

func agreeOnData(t *testing.T, schema, base string, data []byte) api.Errno {
	t.Helper()
	text, e := watched(t, schema, base, data)
	want, f := sheetDecode(schema, base, data)
	if e != f || text != want {
		t.Fatalf("P5: Decode(%q, %s, %v) = %q, %d, want %q, %d", schema, base, data, text, e, want, f)
	}
	return e
}

func agreeOnBoth(t *testing.T, schema, base, text string) {
	t.Helper()
	data, _ := courier.Encode(schema, base, text)
	if back, e := courier.Decode(schema, base, data); e != api.OK || back != text {
		t.Fatalf("P5: Decode(%q, %s, %v) = %q, %d, want %q", schema, base, data, back, e, text)
	}
}

// TestValuesEnd: a panic or a call that does not end fails it by itself.
func TestValuesEnd(t *testing.T) {
	source := rand.New(rand.NewSource(4))
	for _, base := range []string{"int", "bool", "text", "e", "o", "r", "p", "ls", "q", ""} {
		for range 800 {
			agreeOnData(t, looseSchema, base, randomBytes(source, source.Intn(api.MaxValue+3)))
			few := randomBytes(source, source.Intn(20))
			for i := range few {
				few[i] %= 8
			}
			agreeOnData(t, looseSchema, base, few)
			agreeOnText(t, looseSchema, base, string(randomBytes(source, source.Intn(9))))
		}
		for _, piece := range []string{"{", "[", `"`, `\`, "{r:", "{l:[", "{o:", "{o:{", "a", "1", "-", ":", ",", "]", "}", "\xff", "{l:[{l:[],r:"} {
			for _, times := range []int{0, 1, 2, 3, 5, 6, 7, 8, 20, api.MaxText / len(piece), api.MaxText/len(piece) + 1} {
				agreeOnText(t, looseSchema, base, strings.Repeat(piece, times))
			}
		}
	}
}

func TestBytesAreNewMemory(t *testing.T) {
	const text = `{x:1,y:-1,tag:"a",more:[{x:0,y:0,more:[]}]}`
	want, _ := sheetEncode(exampleSchema, "point", text)
	first, _ := courier.Encode(exampleSchema, "point", text)
	second, _ := courier.Encode(exampleSchema, "point", text)
	room := first[:cap(first)]
	for i := range room {
		room[i] = 77
	}
	third, _ := courier.Encode(exampleSchema, "point", text)
	if !bytes.Equal(second, want) || !bytes.Equal(third, want) {
		t.Errorf("P2: when the bytes that came out are written into, others are %v and %v, want %v", second, third, want)
	}
	read, _ := courier.Decode(exampleSchema, "point", second)
	for i := range second {
		second[i] = 77
	}
	if read != text {
		t.Errorf("P2: when the bytes that were handed in are written into, the value is %q", read)
	}
}

func TestValuesHangOnTheirArgumentsAlone(t *testing.T) {
	cases := []encodeCase{{exampleSchema, "point", "{x:1,y:-1,more:[]}", 0}, {looseSchema, "o", "{x:1}", 0}, {"message o { 2 x int }", "o", "{x:1}", 0}, {"enum o { x }", "o", "x", 0}, {"enum o { y x }", "o", "x", 0}, {"", "o", "x", 0}, {"?", "o", "x", 0}}
	var group sync.WaitGroup
	for start := range cases {
		group.Go(func() {
			for i := range 500 {
				c := cases[(start*i)%len(cases)]
				data, e := courier.Encode(c.schema, c.base, c.text)
				want, f := sheetEncode(c.schema, c.base, c.text)
				text, _ := courier.Decode(c.schema, c.base, want)
				if e != f || !bytes.Equal(data, want) || e == api.OK && text != c.text {
					t.Errorf("P2: beside others, Encode(%s, %s) = %v, %d, want %v, %d", c.base, c.text, data, e, want, f)
					return
				}
			}
		})
	}
	group.Wait()
}
