package asm

import (
	"math"
	"math/big"
	"regexp"
	"slices"
	"strings"
	"testing"

	"gavotte/api"
	"gavotte/ops"
)

func TestLine(t *testing.T) {
	rows := []struct {
		op, a int
		want  string
	}{
		{ops.Push, 5, "push 5"}, {ops.Push, 0, "push 0"}, {ops.Push, -12, "push -12"}, {ops.Store, 0, "store 0"}, {ops.End, 0, "end"},
		{ops.Push, math.MaxInt, "push 9223372036854775807"}, {ops.Push, math.MinInt, "push -9223372036854775808"},
		{ops.Load, 99, "load 99"}, {ops.Arg, -1, "arg -1"}, {ops.Jump, 64, "jump 64"}, {ops.Zero, 3, "zero 3"}, {ops.Send, 1, "send 1"},
		{ops.End, 1, ""}, {ops.Pop, -1, ""}, {0, 0, ""}, {0, 5, ""}, {-1, 0, ""}, {26, 0, ""}, {math.MaxInt, 0, ""}, {math.MinInt, 1, ""}, {1<<32 + 1, 0, ""},
	}
	for _, r := range rows {
		if got := Line(api.Instr{Op: r.op, A: r.a}); got != r.want {
			t.Errorf("P5.1: Line of %d, %d is %q, not %q", r.op, r.a, got, r.want)
		}
	}
	for op := ops.Push; op <= ops.End; op++ {
		want := ops.Name(op)
		if ops.Operand(op) != ops.None {
			want += " 0"
		}
		if got := Line(api.Instr{Op: op}); got != want {
			t.Errorf("P5.1: Line of %d is %q, not %q", op, got, want)
		}
	}
}

func TestText(t *testing.T) {
	code := []api.Instr{{Op: ops.Push, A: 5}, {Op: ops.Store}, {Op: ops.End}}
	if got := Text(code); got != "push 5\nstore 0\nend\n" {
		t.Errorf("P5.1: Text is %q", got)
	}
	if Text(nil) != "" || Text([]api.Instr{}) != "" {
		t.Errorf("P5.1: Text of no code is not empty")
	}
	for at := range code {
		for _, i := range []api.Instr{{}, {Op: 26}, {Op: ops.Add, A: 1}} {
			bad := slices.Clone(code)
			bad[at] = i
			if got := Text(bad); got != "" {
				t.Errorf("P5.1: Text of code with %v is %q", i, got)
			}
		}
	}
}

func wantParse(t *testing.T, s string, want []api.Instr, wantErr api.Errno) {
	t.Helper()
	code, e := Parse(s)
	if e != wantErr || !slices.Equal(code, want) {
		t.Errorf("P5.1: Parse(%q) is %v, %d, not %v, %d", s, code, e, want, wantErr)
	}
}

func TestParse(t *testing.T) {
	wantParse(t, "push 5\nstore 0\nend\n", []api.Instr{{Op: ops.Push, A: 5}, {Op: ops.Store}, {Op: ops.End}}, api.OK)
	wantParse(t, "", nil, api.OK)
	wantParse(t, "end\n", []api.Instr{{Op: ops.End}}, api.OK)
	wantParse(t, "push -9223372036854775808\npush 9223372036854775807\n", []api.Instr{{Op: ops.Push, A: math.MinInt}, {Op: ops.Push, A: math.MaxInt}}, api.OK)
}

func TestParseRefuses(t *testing.T) {
	lines := []string{"", " ", "push", "push ", "push  5", " push 5", "push 5 ", "push 05", "push 00", "push -0", "push -05", "push +5", "push --5", "push - 5", "push 5 5", "push 0x5", "push 5.0", "push 1_0", "push 1e2", "push five", "push -",
		"push 9223372036854775808", "push -9223372036854775809", "push 18446744073709551616", "push " + strings.Repeat("9", 400), "push\t5", "push 5\t", "push 5\r", "push\u00a05", "push \u0665", "push 5\x00",
		"Push 5", "PUSH 5", "pus 5", "pushh 5", "end 0", "end ", " end", "end 1", "End", "pop 0", "add 2", "1 5", "5", "none", "store", "jump end", "end;", "end; end", "# end", "\xff", "end\xff"}
	for _, line := range lines {
		wantParse(t, line+"\n", nil, api.ErrBad)
		wantParse(t, "arm\n"+line+"\nend\n", nil, api.ErrBad)
		wantParse(t, "arm\n"+line+"\n", nil, api.ErrBad)
	}
	for _, s := range []string{"end", "arm\nend", "push 5", "\n", "\n\n", "end\n\n", "\nend\n", "end\r\n", "arm\rend\n", "arm end\n", "end\n ", "end\x00\n"} {
		wantParse(t, s, nil, api.ErrBad)
	}
}

func TestParseReadsWhatTextWrites(t *testing.T) {
	numbers := []int{0, 1, -1, 9, 10, -10, 99, 100, 1 << 31, 1 << 32, -1 << 32, math.MaxInt, math.MinInt, math.MinInt + 1}
	var all []api.Instr
	for op := ops.Push; op <= ops.End; op++ {
		for _, a := range numbers {
			if a == 0 || ops.Operand(op) != ops.None {
				all = append(all, api.Instr{Op: op, A: a})
			}
		}
	}
	before := slices.Clone(all)
	for n := range len(all) + 1 {
		code, e := Parse(Text(all[:n]))
		if e != api.OK || !slices.Equal(code, all[:n]) {
			t.Fatalf("P5.2: Parse of the Text of %d instructions is %v, %d", n, code, e)
		}
		for i := range code {
			code[i] = api.Instr{Op: -1, A: -1}
		}
	}
	if !slices.Equal(all, before) {
		t.Errorf("P5.2: what was handed in was changed")
	}
	first, _ := Parse("push 5\nend\n")
	first[0].A = 6
	_ = append(first[:1], api.Instr{Op: ops.Arm})
	second, _ := Parse("push 5\nend\n")
	if !slices.Equal(second, []api.Instr{{Op: ops.Push, A: 5}, {Op: ops.End}}) {
		t.Errorf("P5.2: what was answered stands in the memory of another answer: %v", second)
	}
}

// line is a line of code by the document's words, not by the package's.
var line = regexp.MustCompile(`^(?:(?:push|load|store|arg|jump|zero|send) (0|-?[1-9][0-9]*)|pop|copy|swap|self|add|sub|mul|div|mod|neg|eq|less|and|or|not|arm|calm|end)$`)

// written tells whether a text is one of code: such lines, with numbers of 64 binary digits, and a line's end behind each.
func written(s string) bool {
	lines := strings.Split(s, "\n")
	for _, x := range lines[:len(lines)-1] {
		found := line.FindStringSubmatch(x)
		if found == nil {
			return false
		}
		if n, ok := new(big.Int).SetString(found[1], 10); ok && !n.IsInt64() {
			return false
		}
	}
	return lines[len(lines)-1] == ""
}

// wantWritten holds Parse against the document's words, and Text against Parse.
func wantWritten(t *testing.T, s string) bool {
	t.Helper()
	code, e := Parse(s)
	if (e == api.OK) != written(s) || e != api.OK && e != api.ErrBad {
		t.Fatalf("P5.1: Parse(%q) is %v, %d", s, code, e)
	}
	if e != api.OK && len(code) > 0 {
		t.Fatalf("P5.1: Parse(%q) is refused, and has %v beside", s, code)
	}
	if e == api.OK && Text(code) != s {
		t.Fatalf("P5.2: Parse(%q) is %v, whose Text is %q", s, code, Text(code))
	}
	return e == api.OK
}

// Each text that is a byte more, less or other than one of code.
func TestTextsThatAreNearlyCode(t *testing.T) {
	const s = "push 9223372036854775807\nend\npush -10\nzero 0\nadd\nor\n"
	took := 0
	count := func(x string) {
		if wantWritten(t, x) {
			took++
		}
	}
	count(s)
	for at := range len(s) {
		count(s[:at])
		count(s[at:])
		count(s[:at] + s[at+1:])
		for b := range 256 {
			one := string([]byte{byte(b)})
			count(s[:at] + one + s[at:])
			count(s[:at] + one + s[at+1:])
		}
	}
	if took < 50 {
		t.Errorf("%d texts are taken: too few to tell", took)
	}
}

// All short texts of a few bytes, as operands and as whole lines.
func TestAllShortTexts(t *testing.T) {
	const some = "0159-+ \nx\r"
	texts := []string{""}
	for range 4 {
		for _, x := range texts {
			wantWritten(t, x)
			wantWritten(t, "push "+x+"\n")
			wantWritten(t, "end"+x)
			wantWritten(t, "end"+x+"\n")
			wantWritten(t, "jump 1"+x+"end\n")
		}
		var longer []string
		for _, x := range texts {
			for _, b := range some {
				longer = append(longer, x+string(b))
			}
		}
		texts = longer
	}
}

// The limits of a handler are those of other chapters: a text may be longer than a code may be.
func TestLongTexts(t *testing.T) {
	const many = 100000
	s := strings.Repeat("push -7\nend\n", many)
	code, e := Parse(s)
	if e != api.OK || len(code) != 2*many || Text(code) != s {
		t.Errorf("P5.1: Parse of %d lines is %d, and has %d", 2*many, e, len(code))
	}
	wantParse(t, s+"end", nil, api.ErrBad)
	wantParse(t, s+"\n", nil, api.ErrBad)
}

func TestNothingHandedInIsChanged(t *testing.T) {
	room := []api.Instr{{Op: ops.Push, A: 5}, {Op: ops.End}, {Op: ops.Arm}, {Op: 99, A: 1}}
	before := slices.Clone(room)
	if got := Text(room[:2]); got != "push 5\nend\n" {
		t.Errorf("P5.1: Text of code with spare room is %q", got)
	}
	if got := Text(room); got != "" {
		t.Errorf("P5.1: Text of code with an op that is none is %q", got)
	}
	text := Text(room[:1])
	if !slices.Equal(room, before) {
		t.Errorf("P5.2: Text changed what was handed in: %v", room)
	}
	room[0] = api.Instr{Op: ops.Calm}
	if text != "push 5\n" || Text(room[:1]) != "calm\n" {
		t.Errorf("P5.2: Text hangs on what was handed in earlier")
	}
	code, _ := Parse("push 5\nend\n")
	other, _ := Parse("push 5\nend\n")
	for i := range code[:cap(code)] {
		code[:cap(code)][i] = api.Instr{Op: ops.Calm}
	}
	if Text(other) != "push 5\nend\n" {
		t.Errorf("P5.2: two answers share memory: %v", other)
	}
}
