package courier_test

import (
	"math/rand"
	"strings"
	"sync"
	"testing"

	"courier/api"
	"courier/courier"
)

const exampleSchema = "message point { 1 x int 2 y int 5 tag opt text 7 more list point } enum color { red green } stream ticks int stream marks point call add point int"

type verdict struct {
	e  api.Errno
	at int
}

type checkCase struct {
	schema string
	want   verdict
}

func check(schema string) verdict {
	e, at := courier.Check(schema)
	return verdict{e, at}
}

func runCheckCases(t *testing.T, promise string, cases []checkCase) {
	t.Helper()
	for _, c := range cases {
		if got := check(c.schema); got != c.want {
			t.Errorf("%s: Check(%.80q) = %v, want %v", promise, c.schema, got, c.want)
		}
	}
}

func TestCheckExamples(t *testing.T) {
	runCheckCases(t, "P3", []checkCase{
		{exampleSchema, verdict{api.OK, 0}},
		{"message a { 1 x int 1 y int }", verdict{api.ErrName, 20}},
		{"message a { 1 x b }", verdict{api.ErrName, 16}},
		{"message a { 1 x b } enum b { c }", verdict{api.OK, 0}},
		{"message a { 1 x a }", verdict{api.ErrName, 8}},
		{"message a { 1 x opt a }", verdict{api.OK, 0}},
		{"message a { }", verdict{api.ErrSyntax, 12}},
		{"stream list int", verdict{api.ErrSyntax, 7}},
		{"stream a", verdict{api.ErrSyntax, 8}},
		{"enum a { b b }", verdict{api.ErrName, 11}},
		{"message a { 01 x int }", verdict{api.ErrSyntax, 12}},
		{"", verdict{api.OK, 0}},
	})
}

func TestCheckRight(t *testing.T) {
	for _, schema := range []string{
		" ", "\n", " \n\n ", "stream a int", " stream\n\na  int\n", "stream a bool", "stream a text",
		"call a int text", "call a b b enum b { c }", "stream a int call b int int stream c a enum a { a }",
		"enum a{b}", "enum a{b}enum c{b}message d{1 a a 2 c c}stream a a call c d c", "enum a { a }",
		"message a { 1 a int 2 b int }", "message a{1 x int}", "message a { 98 x int 99 y int }",
		"message a { 1 x int } message b { 1 x int }",
		"message a { 1 x b } message b { 1 x c } message c { 1 x enum1 } enum enum1 { message1 }",
		"message a { 1 x opt a 2 y list a }", "message a { 1 x b } message b { 1 y opt a }",
		"message a { 1 x b 2 y b } message b { 1 z int }",
		"message intx { 1 optx int 2 list0 textx } enum textx { streams calls }",
		"message message1 { 1 x opt message1 }", "enum a1b2 { x9 y }",
	} {
		if got := check(schema); got != (verdict{}) {
			t.Errorf("P3: Check(%q) = %v, want OK", schema, got)
		}
	}
}

func TestCheckBounds(t *testing.T) {
	twelve, thirteen := strings.Repeat("n", api.MaxName), strings.Repeat("n", api.MaxName+1)
	full := exampleSchema + strings.Repeat(" ", api.MaxSchema-len(exampleSchema))
	runCheckCases(t, "P3", []checkCase{
		{full, verdict{api.OK, 0}},
		{full + " ", verdict{api.ErrLong, 0}},
		{strings.Repeat("?", api.MaxSchema), verdict{api.ErrSyntax, 0}},
		{strings.Repeat("?", api.MaxSchema+1), verdict{api.ErrLong, 0}},
		{strings.Repeat("\n", api.MaxSchema-1) + "x", verdict{api.ErrSyntax, api.MaxSchema - 1}},
		{"stream a" + strings.Repeat(" ", api.MaxSchema-8), verdict{api.ErrSyntax, api.MaxSchema}},
		{strings.Repeat("enum a { b } ", 1<<18), verdict{api.ErrLong, 0}},
		{strings.Repeat("\x00", 1<<22), verdict{api.ErrLong, 0}},
		{"enum " + twelve + " { " + twelve + " } stream " + twelve + " " + twelve, verdict{api.OK, 0}},
		{"enum " + thirteen + " { a }", verdict{api.ErrSyntax, 5}},
		{"enum a { " + thirteen + " }", verdict{api.ErrSyntax, 9}},
		{"stream a " + thirteen, verdict{api.ErrSyntax, 9}},
		{"message a { 1 " + thirteen + " int }", verdict{api.ErrSyntax, 14}},
		{"message a { 1 x int 99 y int }", verdict{api.OK, 0}},
		{"message a { 1 x int 100 y int }", verdict{api.ErrSyntax, 20}},
		{"message a { 0 x int }", verdict{api.ErrSyntax, 12}},
		{"message a { 18446744073709551617 x int }", verdict{api.ErrSyntax, 12}},
		{"message a { 9" + strings.Repeat("0", 300) + " x int }", verdict{api.ErrSyntax, 12}},
	})
}

func TestCheckSyntaxPlace(t *testing.T) {
	for _, c := range []struct {
		schema string
		at     int
	}{
		{"stream\ta int", 6}, {"stream\ra int", 6}, {"stream aB int", 8}, {"stream a_b int", 8}, {"Stream a int", 0},
		{"stream a int;", 12}, {"stream a int\x00", 12}, {"stream a int\xff", 12}, {"stream é int", 7}, {"-", 0},
		{"message a { +1 x int }", 12}, {"message a { 1. x int }", 13}, {"message a { 1_0 x int }", 13}, {"message a { 0x1 y int }", 12},
		{"message a { 1x y int }", 12}, {"message a { 00 y int }", 12}, {"stream 1 int", 7}, {"stream 1a int", 7}, {"7", 0}, {"{", 0}, {"}", 0},
		{"streams a int", 0}, {"int", 0}, {"a", 0}, {"opt", 0}, {"message message { 1 x int }", 8}, {"enum int { a }", 5}, {"enum enum { a }", 5},
		{"stream a opt int", 9}, {"stream a list int", 9}, {"stream a call", 9}, {"call a enum int", 7}, {"call a int stream b int", 11},
		{"message a { 1 x opt }", 20}, {"message a { 1 x list list int }", 21}, {"message a { 1 x message }", 16}, {"message a { 1 opt int }", 14},
		{"message a { 1 2 int }", 14}, {"message a { 1 x 2 }", 16}, {"message a { 1 x int y int }", 20}, {"message a { 1 x int { }", 20}, {"message a { 1 x int, 2 y int }", 19},
		{"enum a { b opt }", 11}, {"enum a { b 1 }", 11}, {"enum a { b { }", 11}, {"enum a {}", 8}, {"enum { a }", 5}, {"enum a } b }", 7}, {"enum a b }", 7},
		{"stream a int }", 13}, {"stream a int b", 13}, {"call a int int int", 15}, {"stream a { b }", 9}, {"stream a int stream", 19}, {"stream a int stream b", 21},
		{"enum a { b } \n", -1}, {"enum a { b \n", 12}, {"call", 4}, {"call ", 5}, {"call a", 6}, {"call a int", 10}, {"call a int ", 11}, {"enum", 4}, {"enum a", 6}, {"enum a {", 8},
		{"message a { 1 x list", 20}, {"message a { 1 x int 2", 21}, {"messag", 0}, {"message a { 1 x int } messag", 22},
	} {
		want := verdict{api.ErrSyntax, c.at}
		if c.at < 0 {
			want = verdict{}
		}
		runCheckCases(t, "P3", []checkCase{{c.schema, want}})
	}
}

func TestCheckNamePlace(t *testing.T) {
	for _, c := range []struct {
		schema string
		at     int
	}{
		{"enum a { b } enum a { c }", 18}, {"enum a { b } message a { 1 x int }", 21}, {"message a { 1 x int } message a { 1 x int }", 30},
		{"enum a { b } stream c int enum a { b }", 31}, {"stream a int stream a int", 20}, {"call a int int stream a int", 22}, {"call a int int call a int int", 20},
		{"message a { 1 x int 2 y int 3 x int }", 30}, {"enum a { b c b }", 13}, {"enum a { a a }", 11},
		{"message a { 2 x int 2 y int }", 20}, {"message a { 99 x int 1 y int }", 21}, {"message a { 1 x int 3 y int 2 z int }", 28}, {"message a { 10 x int 9 y int }", 21},
		{"stream a b", 9}, {"stream a a", 9}, {"call a b int", 7}, {"call a int b", 11}, {"stream a int stream b a", 22}, {"enum a { b } stream c b", 22}, {"message a { 1 x list b }", 21}, {"message a { 1 x opt x }", 20},
		{"message a { 1 x int 2 y a }", 8}, {"message a { 1 x b } message b { 1 x c } message c { 1 x a }", 8}, {"message d { 1 x a } message a { 1 x b } message b { 1 x a }", 28},
		{"message a { 1 x opt a 2 y a }", 8}, {"message a { 1 x opt b } message b { 1 y b }", 32}, {"enum a { b } message c { 1 x a 2 y c }", 21},
		{"message b { 1 x c } message c { 1 x c }", 28},
		// The first of two of one name is meant.
		{"message a { 1 x b } message b { 1 x a } enum b { c }", 8}, {"enum b { c } message a { 1 x b } message b { 1 x a }", 41},
	} {
		runCheckCases(t, "P3", []checkCase{{c.schema, verdict{api.ErrName, c.at}}})
	}
}

func TestCheckTellsTheFirstOfTwoFaults(t *testing.T) {
	runCheckCases(t, "P3", []checkCase{
		{strings.Repeat("enum a { b b } ", 27), verdict{api.ErrLong, 0}},
		{"enum a { b b } ?", verdict{api.ErrSyntax, 15}},
		{"enum a { b b } stream", verdict{api.ErrSyntax, 21}},
		{"stream ? 01", verdict{api.ErrSyntax, 7}},
		{"stream list ?", verdict{api.ErrSyntax, 7}},
		{"message a { 1 x int 1 x b }", verdict{api.ErrName, 20}},
		{"message a { 1 x int 2 x b }", verdict{api.ErrName, 22}},
		{"message a { 1 x b 1 x int }", verdict{api.ErrName, 16}},
		{"message a { 1 x q 2 y a }", verdict{api.ErrName, 8}},
		{"stream s q message a { 1 x a }", verdict{api.ErrName, 9}},
		{"message a { 1 x a } message b { 1 x b }", verdict{api.ErrName, 8}},
		{"message b { 1 x int 1 y a } message a { 1 x a }", verdict{api.ErrName, 20}},
		{"call a q r", verdict{api.ErrName, 7}},
		{"stream a int stream a q", verdict{api.ErrName, 20}},
		{"enum a { b b } enum a { b }", verdict{api.ErrName, 11}},
	})
}

// TestCheckByTheBook holds Check against a second way to work out its answer,
// at schemas made of few names, so that all kinds of faults meet.
func TestCheckByTheBook(t *testing.T) {
	source := rand.New(rand.NewSource(1))
	counts := map[api.Errno]int{}
	for range 60000 {
		schema := randomSchema(source)
		got, want := check(schema), bookCheck(schema)
		if got != want {
			t.Fatalf("P3: Check(%q) = %v, want %v", schema, got, want)
		}
		counts[got.e]++
	}
	for _, e := range []api.Errno{api.OK, api.ErrSyntax, api.ErrName, api.ErrLong} {
		if counts[e] < 200 {
			t.Errorf("only %d of the schemas answer %d: they try too little", counts[e], e)
		}
	}
}

func TestCheckCutOffAndSpoiled(t *testing.T) {
	for cut := range len(exampleSchema) {
		front := exampleSchema[:cut]
		runCheckCases(t, "P3", []checkCase{{front, bookCheck(front)}})
		for b := range 256 {
			spoiled := front + string([]byte{byte(b)}) + exampleSchema[cut+1:]
			runCheckCases(t, "P3", []checkCase{{spoiled, bookCheck(spoiled)}})
		}
	}
}

// TestCheckEnds: a panic or a call that does not end fails it by itself.
func TestCheckEnds(t *testing.T) {
	source := rand.New(rand.NewSource(2))
	for range 20000 {
		text := make([]byte, source.Intn(api.MaxSchema+20))
		for i := range text {
			text[i] = byte(source.Intn(256))
		}
		schema := string(text)
		got := check(schema)
		if got != bookCheck(schema) {
			t.Fatalf("P1: Check(%q) = %v, want %v", schema, got, bookCheck(schema))
		}
	}
	for _, piece := range []string{"message a{1 x a}", "message a{1 x b}message b{1 x a}", "enum a{a}", "stream a a ", "{", "}", "1 ", "a ", "a", "9", "opt ", "\xff"} {
		for times := range api.MaxSchema/len(piece) + 2 {
			schema := strings.Repeat(piece, times)
			if got := check(schema); got != bookCheck(schema) {
				t.Fatalf("P1: Check(%q) = %v, want %v", schema, got, bookCheck(schema))
			}
		}
	}
}

// TestCheckEndsWhereMessagesHoldManyOthers: each message holds all behind it,
// by two fields each, so that the ways through them are too many to be gone one by one.
func TestCheckEndsWhereMessagesHoldManyOthers(t *testing.T) {
	chain := ""
	for c := byte('a'); c < 'o'; c++ {
		next := string([]byte{c + 1})
		chain += "message " + string([]byte{c}) + "{1 x " + next + " 2 y " + next + "}"
	}
	runCheckCases(t, "P1", []checkCase{
		{chain + "enum o{a}", verdict{api.OK, 0}},
		{chain + "message o{1 x a}", verdict{api.ErrName, 8}},
		{chain + "message o{1 x o}", verdict{api.ErrName, len(chain) + 8}},
	})
}

func TestCheckHangsOnItsArgumentAlone(t *testing.T) {
	schemas := []string{
		"", exampleSchema, "enum a { b }", "stream c a", "message a { 1 x int } stream c a", "message a { 1 x a }",
		"enum a { b b }", "stream a", "?", "01", strings.Repeat(" ", api.MaxSchema+1), "message b { 1 x a } enum a { b }",
	}
	for _, first := range schemas {
		for _, second := range schemas {
			check(first)
			if got := check(second); got != bookCheck(second) {
				t.Errorf("P2: behind Check(%.40q), Check(%.40q) = %v, want %v", first, second, got, bookCheck(second))
			}
		}
	}
	var group sync.WaitGroup
	for start := range schemas {
		group.Go(func() {
			for i := range 2000 {
				schema := schemas[(start+i)%len(schemas)]
				if got := check(schema); got != bookCheck(schema) {
					t.Errorf("P2: beside others, Check(%.40q) = %v, want %v", schema, got, bookCheck(schema))
					return
				}
			}
		})
	}
	group.Wait()
}
