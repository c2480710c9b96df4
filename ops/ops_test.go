package ops

import (
	"math"
	"strings"
	"testing"
)

// wants says again, apart from the program's table, what the document asks of each op.
var wants = []struct {
	op, number       int
	name             string
	pops, puts, kind int
}{
	{Push, 1, "push", 0, 1, 1},
	{Pop, 2, "pop", 1, 0, 0},
	{Copy, 3, "copy", 1, 2, 0},
	{Swap, 4, "swap", 2, 2, 0},
	{Load, 5, "load", 0, 1, 2},
	{Store, 6, "store", 1, 0, 2},
	{Arg, 7, "arg", 0, 1, 3},
	{Self, 8, "self", 0, 1, 0},
	{Add, 9, "add", 2, 1, 0},
	{Sub, 10, "sub", 2, 1, 0},
	{Mul, 11, "mul", 2, 1, 0},
	{Div, 12, "div", 2, 1, 0},
	{Mod, 13, "mod", 2, 1, 0},
	{Neg, 14, "neg", 1, 1, 0},
	{Eq, 15, "eq", 2, 1, 0},
	{Less, 16, "less", 2, 1, 0},
	{And, 17, "and", 2, 1, 0},
	{Or, 18, "or", 2, 1, 0},
	{Not, 19, "not", 1, 1, 0},
	{Jump, 20, "jump", 0, 0, 4},
	{Zero, 21, "zero", 1, 0, 4},
	{Send, 22, "send", 1, 0, 5},
	{Arm, 23, "arm", 0, 0, 0},
	{Calm, 24, "calm", 0, 0, 0},
	{End, 25, "end", 0, 0, 0},
}

// notOps are numbers that are no op: the edges, what a narrower number would wrap to an op, and the least and greatest.
func notOps() []int {
	return []int{
		0, 26, -1, -2, -25, -26, 27, 31, 32, 50, 64, 100,
		1<<8 + 1, 1<<16 + 1, 1<<32 + 1, 1<<32 + 25, -1<<8 + 1, -1<<32 + 1,
		math.MaxInt8, math.MaxInt16, math.MaxInt32, math.MinInt32,
		math.MaxInt - 1, math.MaxInt, math.MinInt, math.MinInt + 1, math.MinInt + 25,
	}
}

func TestConstants(t *testing.T) {
	for _, w := range wants {
		if w.op != w.number {
			t.Errorf("P1.1: the op %s is %d, not %d", w.name, w.op, w.number)
		}
	}
	if got := [...]int{None, Number, Reg, Param, Target, Kind}; got != [...]int{0, 1, 2, 3, 4, 5} {
		t.Errorf("P1.1: the operands are %v", got)
	}
}

func TestValid(t *testing.T) {
	if len(wants) != 25 {
		t.Fatalf("%d ops are looked at, not 25", len(wants))
	}
	for _, w := range wants {
		if !Valid(w.number) {
			t.Errorf("P1.1: Valid(%d) is false", w.number)
		}
	}
	for _, op := range notOps() {
		if Valid(op) {
			t.Errorf("P1.1: Valid(%d) is true", op)
		}
	}
}

func TestName(t *testing.T) {
	for _, w := range wants {
		if got := Name(w.number); got != w.name {
			t.Errorf("P1.1: Name(%d) is %q, not %q", w.number, got, w.name)
		}
	}
	for _, op := range notOps() {
		if got := Name(op); got != "" {
			t.Errorf("P1.1: Name(%d) is %q, not empty", op, got)
		}
	}
}

func TestFind(t *testing.T) {
	for _, w := range wants {
		if op, ok := Find(w.name); op != w.number || !ok {
			t.Errorf("P1.1: Find(%q) is %d, %v, not %d", w.name, op, ok, w.number)
		}
	}
	if op, ok := Find("less"); op != 16 || !ok {
		t.Errorf("P1.1: the chapter's example: Find(less) is %d, %v", op, ok)
	}
}

func TestFindOfNoName(t *testing.T) {
	none := []string{
		"", " ", "\x00", "\xff", "é", "0", "1", "16", "25", "-1",
		"none", "number", "reg", "param", "target", "kind", "op", "nop", "push pop", "arm calm end",
		strings.Repeat("push", 1<<16),
	}
	for _, w := range wants {
		none = append(none,
			strings.ToUpper(w.name), strings.ToUpper(w.name[:1])+w.name[1:],
			" "+w.name, w.name+" ", w.name+"\n", w.name+"\x00", w.name+w.name,
			w.name[:1], w.name[1:]+w.name[:1])
	}
	for _, name := range none {
		if op, ok := Find(name); op != 0 || ok {
			t.Errorf("P1.1: Find(%.40q) is %d, %v, not 0, false", name, op, ok)
		}
	}
}

func TestOperand(t *testing.T) {
	for _, w := range wants {
		if got := Operand(w.number); got != w.kind {
			t.Errorf("P1.1: Operand(%s) is %d, not %d", w.name, got, w.kind)
		}
	}
	for _, op := range notOps() {
		if got := Operand(op); got != None {
			t.Errorf("P1.1: Operand(%d) is %d, not None", op, got)
		}
	}
}

func TestPopsAndPuts(t *testing.T) {
	for _, w := range wants {
		if pops, puts := Pops(w.number), Puts(w.number); pops != w.pops || puts != w.puts {
			t.Errorf("P1.2: %s takes %d, puts %d, not %d, %d", w.name, pops, puts, w.pops, w.puts)
		}
	}
	for _, op := range notOps() {
		if pops, puts := Pops(op), Puts(op); pops != 0 || puts != 0 {
			t.Errorf("P1.2: %d, which is none, takes %d, puts %d", op, pops, puts)
		}
	}
}

func TestEachNameIsOneOps(t *testing.T) {
	owner := map[string]int{}
	for op := -300; op <= 300; op++ {
		name := Name(op)
		if Valid(op) != (name != "") {
			t.Errorf("P1.3: %d has the name %q, and Valid tells %v", op, name, Valid(op))
		}
		if name == "" {
			continue
		}
		if first, taken := owner[name]; taken {
			t.Errorf("P1.3: %q is the name of %d and of %d", name, first, op)
		}
		owner[name] = op
		if found, ok := Find(name); found != op || !ok {
			t.Errorf("P1.3: Find(Name(%d)) is %d, %v", op, found, ok)
		}
	}
	if len(owner) != 25 {
		t.Errorf("P1.3: there are %d names, not 25", len(owner))
	}
}
