package flow

import (
	"math"
	"reflect"
	"slices"
	"strconv"
	"strings"
	"testing"

	"gavotte/api"
	"gavotte/ops"
)

// code is instructions in words, one behind the other by "; "; none of an empty text.
func code(s string) []api.Instr {
	var out []api.Instr
	for _, line := range strings.Split(s, "; ") {
		name, number, _ := strings.Cut(line, " ")
		op, found := ops.Find(name)
		if !found && s != "" {
			panic(s)
		}
		a, _ := strconv.Atoi(number)
		if s != "" {
			out = append(out, api.Instr{Op: op, A: a})
		}
	}
	return out
}

// pushes is so many of push 1, and what comes behind them.
func pushes(n int, s string) string { return strings.Repeat("push 1; ", n) + s }

// around is a program whose handler 0 has that code and one argument, and whose handlers 1 to 5 are empty, with 0 to 4 arguments, to be sent to.
func around(list []api.Instr) api.Program {
	p := api.Program{Handlers: []api.Handler{{Args: 1, Code: list}}, Actors: []api.Actor{{Timer: -1}}, Fuel: 50}
	for args := range api.MaxArgs + 1 {
		p.Handlers = append(p.Handlers, api.Handler{Args: args})
	}
	return p
}

// wantRefused holds of a handler's depths and its most; Check is held against it by those who know what other handlers have.
func wantRefused(t *testing.T, what string, p api.Program, handler int, want api.Errno) {
	t.Helper()
	depths, e := Depths(p, handler)
	if len(depths) != 0 || e != want {
		t.Errorf("P4.1: Depths of %s is %v, %d, not none, %d", what, depths, e, want)
	}
	if most := Most(p, handler); most != -1 {
		t.Errorf("P4.1: Most of %s is %d, not -1", what, most)
	}
}

func wantDepths(t *testing.T, what string, p api.Program, handler int, want []int) {
	t.Helper()
	depths, e := Depths(p, handler)
	if !slices.Equal(depths, want) || e != api.OK {
		t.Errorf("P4.1: Depths of %s is %v, %d, not %v, 0", what, depths, e, want)
	}
	if most := Most(p, handler); most != slices.Max(want) {
		t.Errorf("P4.1: Most of %s is %d, not %d", what, most, slices.Max(want))
	}
}

func wantCheck(t *testing.T, what string, p api.Program, want api.Errno) {
	t.Helper()
	if e := Check(p); e != want {
		t.Errorf("P4.1: Check of %s is %d, not %d", what, e, want)
	}
}

// wantTaken is of code as handler 0's, with the depths that it has.
func wantTaken(t *testing.T, s string, want ...int) {
	t.Helper()
	wantDepths(t, s, around(code(s)), 0, want)
	wantCheck(t, s, around(code(s)), api.OK)
}

// wantStack is of code that the stack is too small or too great for.
func wantStack(t *testing.T, s string) {
	t.Helper()
	wantRefused(t, s, around(code(s)), 0, api.ErrStack)
	wantCheck(t, s, around(code(s)), api.ErrStack)
}

func TestStraightOn(t *testing.T) {
	wantTaken(t, "", 0)
	wantTaken(t, "end", 0, -1)
	wantTaken(t, "arm", 0, 0)
	wantTaken(t, "push 1", 0, 1)
	wantTaken(t, "push 1; end", 0, 1, -1)
	wantTaken(t, "push 1; pop; end; end", 0, 1, 0, -1, -1)
	wantTaken(t, "arg 0; self; load 7; swap; less; eq; not; store 0; calm; arm", 0, 1, 2, 3, 3, 2, 1, 1, 0, 0, 0)
	wantTaken(t, "push 3; copy; copy; mul; add; push 2; div; push 7; mod; neg; store 7", 0, 1, 2, 3, 2, 1, 2, 1, 2, 1, 1, 0)
	wantTaken(t, "load 0; load 1; and; load 2; or; load 3; sub", 0, 1, 2, 1, 2, 1, 2, 1)
}

func TestJumps(t *testing.T) {
	wantTaken(t, "push 1; zero 4; push 2; jump 5; push 3; pop", 0, 1, 0, 1, 0, 1, 0) // the document's
	wantTaken(t, "jump 1", 0, 0)
	wantTaken(t, "jump 0", 0, -1)
	wantTaken(t, "push 1; jump 2", 0, 1, 1)
	wantTaken(t, "push 1; zero 2", 0, 1, 0)
	wantTaken(t, "push 1; push 1; zero 3", 0, 1, 2, 1)
	wantTaken(t, "push 1; zero 0; end", 0, 1, 0, -1)
	wantTaken(t, "push 1; zero 3; end", 0, 1, 0, 0)
	wantTaken(t, "jump 3; push 1; end; jump 1", 0, 0, 1, 0, -1)
	wantTaken(t, "push 1; jump 1", 0, 1, -1)
	wantTaken(t, "push 1; push 2; zero 1; end", 0, 1, 2, 1, -1)
	wantTaken(t, "push 1; push 1; pop; jump 1; pop; jump 4", 0, 1, 2, 1, -1, -1, -1)
	wantTaken(t, "push 5; copy; zero 6; push 1; sub; jump 1; pop", 0, 1, 2, 1, 2, 1, 1, 0)
	wantStack(t, "push 1; zero 3; push 2")
	wantStack(t, "push 1; jump 0")
	wantStack(t, "push 1; pop; push 1; jump 2")
	wantStack(t, "push 1; push 2; zero 0")
	wantStack(t, "push 1; push 2; zero 4; push 3; end")
	wantStack(t, "push 1; push 1; zero 5; end; end; push 1; jump 3")
	wantStack(t, "zero 0")
	wantStack(t, "jump 2; push 1; pop")
}

// Two depths of the end alone, of an instruction alone, and of one that is met again from behind, from ahead, and by itself.
func TestTwoDepths(t *testing.T) {
	wantStack(t, "push 1; zero 4; push 2; jump 4")
	wantStack(t, "push 1; zero 4; jump 5; end; push 2")
	wantStack(t, "push 1; zero 3; push 2; end")
	wantStack(t, "push 1; zero 4; push 1; end; push 2; jump 2")
	wantStack(t, "push 1; zero 4; push 1; end; jump 3")
	wantStack(t, "arg 0; zero 0; push 1; jump 0")
	wantStack(t, "push 1; copy; zero 0")
	wantTaken(t, "push 1; zero 4; push 1; jump 5; push 2; end", 0, 1, 0, 1, 0, 1, -1)
	wantTaken(t, "push 1; zero 4; push 2; jump 6; push 3; jump 6", 0, 1, 0, 1, 0, 1, 1)
	wantTaken(t, "push 1; zero 4; push 1; end; push 2; jump 3", 0, 1, 0, 1, 0, 1, -1)
	wantTaken(t, "push 1; zero 4; push 1; end; end", 0, 1, 0, 1, 0, -1)
}

func TestWhatIsNotReachedMayBe(t *testing.T) {
	wantTaken(t, "end; pop; add; send 5", 0, -1, -1, -1, -1)
	wantTaken(t, "jump 2; pop; end", 0, -1, 0, -1)
	wantTaken(t, "jump 3; push 1; jump 0", 0, -1, -1, 0)
	wantTaken(t, "jump 2; push 1; push 1; end", 0, -1, 0, 1, -1)
	wantTaken(t, "jump 0; zero 0; jump 5; pop; copy", 0, -1, -1, -1, -1, -1)
	wantTaken(t, "end; "+pushes(20, "end"), append([]int{0}, slices.Repeat([]int{-1}, 22)...)...)
	wantTaken(t, "push 1; end; push 1; jump 1", 0, 1, -1, -1, -1)
}

// taken is how many numbers each instruction takes from the stack, and puts there, as the document has it.
func taken() map[string][2]int {
	out := map[string][2]int{
		"push 5": {0, 1}, "pop": {1, 0}, "copy": {1, 2}, "swap": {2, 2}, "load 1": {0, 1}, "store 1": {1, 0}, "arg 0": {0, 1}, "self": {0, 1},
		"neg": {1, 1}, "not": {1, 1}, "arm": {0, 0}, "calm": {0, 0},
		"send 1": {1, 0}, "send 2": {2, 0}, "send 3": {3, 0}, "send 4": {4, 0}, "send 5": {5, 0}, "send 0": {2, 0},
	}
	for _, name := range strings.Fields("add sub mul div mod eq less and or") {
		out[name] = [2]int{2, 1}
	}
	return out
}

// Each instruction at each depth: one more than it takes, just as many, one too few; MaxStack left, and one more.
func TestEachAtEachDepth(t *testing.T) {
	for s, n := range taken() {
		for depth := range api.MaxStack + 1 {
			left := depth - n[0] + n[1]
			if depth < n[0] || left > api.MaxStack {
				wantStack(t, pushes(depth, s))
				wantStack(t, pushes(depth, s+"; end"))
				continue
			}
			var want []int
			for d := range depth + 1 {
				want = append(want, d)
			}
			wantTaken(t, pushes(depth, s), append(want, left)...)
			wantTaken(t, pushes(depth, s+"; end; pop"), append(want, left, -1, -1)...)
		}
	}
}

func TestJumpsAtEachDepth(t *testing.T) {
	for depth := range api.MaxStack + 1 {
		var want []int
		for d := range depth + 1 {
			want = append(want, d)
		}
		here, end := strconv.Itoa(depth+1), strconv.Itoa(depth+2)
		wantTaken(t, pushes(depth, "end"), append(want, -1)...)
		wantTaken(t, pushes(depth, "jump "+here), append(want, depth)...)
		wantTaken(t, pushes(depth, "jump "+end+"; end"), append(want, -1, depth)...)
		if depth == 0 {
			wantStack(t, "zero 1")
			continue
		}
		wantTaken(t, pushes(depth, "zero "+here), append(want, depth-1)...)
		wantTaken(t, pushes(depth, "zero "+end+"; end"), append(want, depth-1, depth-1)...)
	}
}

func TestFullStack(t *testing.T) {
	wantTaken(t, pushes(7, "push 1"), 0, 1, 2, 3, 4, 5, 6, 7, 8)
	wantTaken(t, pushes(8, "swap; neg; eq"), 0, 1, 2, 3, 4, 5, 6, 7, 8, 8, 8, 7)
	wantTaken(t, pushes(8, "pop; copy; send 5; send 3"), 0, 1, 2, 3, 4, 5, 6, 7, 8, 7, 8, 3, 0)
	wantStack(t, pushes(8, "push 1"))
	wantStack(t, pushes(8, "copy"))
	wantStack(t, pushes(8, "push 1; pop"))
	wantStack(t, pushes(8, "self; end"))
	wantStack(t, pushes(8, "arm; arg 0; jump 11"))
	wantStack(t, pushes(63, "end"))
	long := strings.Repeat("push 1; pop; ", 31) + "push 1; end"
	wantDepths(t, "64 instructions", around(code(long)), 0, append(slices.Repeat([]int{0, 1}, 32), -1))
}

func TestSendTakesItsHandlersArguments(t *testing.T) {
	p := around(code("push 1; push 0; send 2"))
	wantDepths(t, "a send with one argument", p, 0, []int{0, 1, 2, 0})
	p.Handlers[2].Args = 0
	wantDepths(t, "a send without", p, 0, []int{0, 1, 2, 1})
	p.Handlers[2].Args = 2
	wantRefused(t, "a send with one too few", p, 0, api.ErrStack)
	p.Handlers[2] = api.Handler{Args: 1, Code: code("arg 0; self; send 2; jump 5; end")}
	wantDepths(t, "a send to itself", p, 2, []int{0, 1, 2, 0, -1, 0})
	p.Handlers[5].Code = code("arg 0; arg 1; arg 2; arg 3; self; send 5; self; send 1")
	wantDepths(t, "a send of four arguments, and of none", p, 5, []int{0, 1, 2, 3, 4, 5, 0, 1, 0})
	wantCheck(t, "sends to and fro", p, api.OK)
}

func TestHandlersThatThereAreNot(t *testing.T) {
	p := around(code("pop"))
	for _, handler := range []int{-1, -2, 6, 7, 16, 1 << 32, math.MaxInt, math.MinInt} {
		wantRefused(t, "a handler that there is not", p, handler, api.ErrWho)
	}
	none := api.Program{Actors: []api.Actor{{Timer: -1}}, Fuel: 1}
	wantRefused(t, "the first of no handlers", none, 0, api.ErrWho)
	wantCheck(t, "no handlers", none, api.OK)
	for handler := 1; handler < 6; handler++ {
		wantDepths(t, "an empty handler", p, handler, []int{0})
	}
}

func TestCheckOfManyHandlers(t *testing.T) {
	for bad := range 16 {
		p := api.Program{Actors: []api.Actor{{Timer: -1}}, Fuel: 256}
		for range 16 {
			p.Handlers = append(p.Handlers, api.Handler{Code: code("push 1; end")})
		}
		wantCheck(t, "16 handlers", p, api.OK)
		p.Handlers[bad].Code = code("push 1; add")
		wantCheck(t, "16 handlers, one of them bad", p, api.ErrStack)
		for handler := range 16 {
			if handler == bad {
				wantRefused(t, "the bad one", p, handler, api.ErrStack)
			} else {
				wantDepths(t, "a good one beside a bad one", p, handler, []int{0, 1, -1})
			}
		}
	}
}

// refused are changes after which chapter 3's Check takes a program no more, and its error.
func refused() map[string]struct {
	do   func(p *api.Program)
	want api.Errno
} {
	type row = struct {
		do   func(p *api.Program)
		want api.Errno
	}
	last := func(s string) func(p *api.Program) {
		return func(p *api.Program) { p.Handlers[5].Code = code(s) }
	}
	return map[string]row{
		"17 handlers":        {func(p *api.Program) { p.Handlers = append(p.Handlers, make([]api.Handler, 11)...) }, api.ErrBig},
		"no actors":          {func(p *api.Program) { p.Actors = nil }, api.ErrArg},
		"no fuel":            {func(p *api.Program) { p.Fuel = 0 }, api.ErrArg},
		"Args 5":             {func(p *api.Program) { p.Handlers[5].Args = 5 }, api.ErrArg},
		"Args below 0":       {func(p *api.Program) { p.Handlers[5].Args = -1 }, api.ErrArg},
		"65 instructions":    {last(pushes(64, "end")), api.ErrBig},
		"an op that is none": {func(p *api.Program) { p.Handlers[5].Code = []api.Instr{{Op: 26}} }, api.ErrArg},
		"an operand":         {last("end 1"), api.ErrArg},
		"a jump out":         {last("end; jump 3"), api.ErrJump},
		"a jump below 0":     {last("jump -1"), api.ErrJump},
		"a register":         {last("load 8"), api.ErrReg},
		"a parameter":        {last("arg 4"), api.ErrReg},
		"a send to nobody":   {last("send 6"), api.ErrWho},
		"a send below 0":     {last("send -1"), api.ErrWho},
		"a timer":            {func(p *api.Program) { p.Actors[0].Timer = 2 }, api.ErrWho},
		"a note":             {func(p *api.Program) { p.Boot = []api.Note{{Handler: 2}} }, api.ErrArg},
	}
}

func TestRefusedPrograms(t *testing.T) {
	for what, r := range refused() {
		for _, s := range []string{"end", "pop"} { // what is wrong with the stack is told later, wherever it stands
			p := around(code(s))
			r.do(&p)
			wantCheck(t, what, p, r.want)
			for _, handler := range []int{0, 1, 5, -1, 6, 99, math.MaxInt, math.MinInt} {
				wantRefused(t, what, p, handler, r.want)
			}
		}
	}
	wantRefused(t, "nothing", api.Program{}, 0, api.ErrArg)
	wantCheck(t, "nothing", api.Program{}, api.ErrArg)
	p := around(code("pop"))
	wantRefused(t, "no such handler, beside a bad one", p, 6, api.ErrWho)
	wantRefused(t, "a bad one", p, 0, api.ErrStack)
}

// place is a place in the code, and how many numbers are on the stack there.
type place struct{ at, depth int }

// shift is how many numbers an instruction takes and puts, by the document's words.
func shift(i api.Instr) (int, int) {
	switch i.Op {
	case ops.Jump, ops.End:
		return 0, 0
	case ops.Zero:
		return 1, 0
	}
	for s, n := range taken() {
		if c := code(s)[0]; c.Op == i.Op && (c.A == i.A || i.Op != ops.Send) {
			return n[0], n[1]
		}
	}
	panic("no such instruction")
}

// every goes through all places that any run may come to, whatever zero takes; false, if one finds too few numbers or leaves too many.
func every(list []api.Instr) (map[place]bool, bool) {
	seen := map[place]bool{}
	var visit func(x place) bool
	visit = func(x place) bool {
		if seen[x] {
			return true
		}
		seen[x] = true
		if x.at == len(list) || list[x.at].Op == ops.End {
			return true
		}
		i := list[x.at]
		pops, puts := shift(i)
		left := x.depth - pops + puts
		if x.depth < pops || left > 8 {
			return false
		}
		if (i.Op == ops.Jump || i.Op == ops.Zero) && !visit(place{i.A, left}) {
			return false
		}
		return i.Op == ops.Jump || visit(place{x.at + 1, left})
	}
	return seen, visit(place{})
}

// wanted is what Depths should be by the places that runs come to; false, if it should be refused.
func wanted(list []api.Instr) ([]int, bool) {
	seen, ok := every(list)
	if !ok {
		return nil, false
	}
	want := slices.Repeat([]int{-1}, len(list)+1)
	for x := range seen {
		if want[x.at] != -1 && want[x.at] != x.depth {
			return nil, false
		}
		want[x.at] = x.depth
	}
	return want, true
}

// hold compares code with all its runs.
func hold(t *testing.T, list []api.Instr) bool {
	t.Helper()
	p := around(list)
	want, ok := wanted(list)
	if !ok {
		wantRefused(t, "code", p, 0, api.ErrStack)
		wantCheck(t, "code", p, api.ErrStack)
	} else {
		wantDepths(t, "code", p, 0, want)
		wantCheck(t, "code", p, api.OK)
	}
	if t.Failed() {
		t.Fatalf("the code is %v", list)
	}
	return ok
}

// All short codes of a few instructions, on an empty stack and on a full one, against all places that their runs come to.
func TestAllShortCodes(t *testing.T) {
	for _, under := range []int{0, 2, 7, 8} {
		head := code(pushes(under, "arm"))
		for size := range 4 {
			some := code("push 1; pop; copy; add; send 1; send 2; end; jump 0; zero 0")
			for to := range size + 1 {
				a := len(head) + to
				some = append(some, api.Instr{Op: ops.Jump, A: a}, api.Instr{Op: ops.Zero, A: a})
			}
			total := 1
			for range size {
				total *= len(some)
			}
			for n := range total {
				list := slices.Clone(head)
				for range size {
					list = append(list, some[n%len(some)])
					n /= len(some)
				}
				hold(t, list)
			}
		}
	}
}

// dice is a row of numbers that is the same each time.
type dice uint64

func (d *dice) below(n int) int {
	*d = *d*6364136223846793005 + 1442695040888963407
	return int(uint64(*d)>>33) % n
}

// thrown is code of any of the instructions, with jumps anywhere.
func thrown(d *dice) []api.Instr {
	list := make([]api.Instr, 1+d.below(14))
	for at := range list {
		i := api.Instr{Op: 1 + d.below(25)}
		switch ops.Operand(i.Op) {
		case ops.Number:
			i.A = d.below(3)
		case ops.Reg:
			i.A = d.below(8)
		case ops.Target:
			i.A = d.below(len(list) + 1)
		case ops.Kind:
			i.A = d.below(6)
		}
		list[at] = i
	}
	return list
}

func TestThrownCodes(t *testing.T) {
	d, took := dice(1), 0
	for range 20000 {
		if hold(t, thrown(&d)) {
			took++
		}
	}
	if took < 500 || took > 19500 {
		t.Errorf("%d of 20000 codes are taken: too few of one kind to tell", took)
	}
}

// run runs code with numbers that are thrown, and tells whether its stack is ever too small or too great, or not as deep as was told.
func run(d *dice, list []api.Instr, depths []int) bool {
	var stack []int
	at := 0
	for range 256 {
		if len(stack) != depths[at] {
			return false
		}
		if at == len(list) || list[at].Op == ops.End {
			return true
		}
		i := list[at]
		pops, puts := shift(i)
		if len(stack) < pops {
			return false
		}
		upper := 1
		if pops > 0 {
			upper = stack[len(stack)-1]
		}
		stack = stack[:len(stack)-pops]
		for range puts {
			stack = append(stack, d.below(2))
		}
		if len(stack) > api.MaxStack {
			return false
		}
		at++
		if i.Op == ops.Jump || i.Op == ops.Zero && upper == 0 {
			at = i.A
		}
	}
	return true
}

func TestWhatIsTakenRuns(t *testing.T) {
	d := dice(2)
	for range 20000 {
		list := thrown(&d)
		p := around(list)
		if Check(p) != api.OK {
			continue
		}
		depths, _ := Depths(p, 0)
		for range 8 {
			if !run(&d, list, depths) {
				t.Fatalf("P4.2: Check takes %v, and its stack is not as was told", list)
			}
		}
	}
}

// roomy is a program whose lists have spare room, with something in it; in handler 0 what lies behind the end would change it, and a 7th handler could be sent to.
func roomy(s string) api.Program {
	p := around(append(code(s), code("pop; pop; send 6")...))
	p.Handlers[0].Code = p.Handlers[0].Code[:len(code(s))]
	p.Handlers = append(p.Handlers, api.Handler{Args: 3, Code: code("pop")})[:6]
	p.Actors[0].Regs = []int{4, 5, 6}[:1]
	p.Boot = []api.Note{{Handler: 2, Args: []int{7, 8}[:1]}, {To: 9}}[:1]
	return p
}

// whole is a program with its lists' spare room laid open, each list another one.
func whole(p api.Program) api.Program {
	open := func(list []int) []int { return append([]int{}, list[:cap(list)]...) }
	out := api.Program{Fuel: p.Fuel}
	for _, h := range p.Handlers[:cap(p.Handlers)] {
		out.Handlers = append(out.Handlers, api.Handler{Args: h.Args, Code: append([]api.Instr{}, h.Code[:cap(h.Code)]...)})
	}
	for _, a := range p.Actors[:cap(p.Actors)] {
		a.Regs = open(a.Regs)
		out.Actors = append(out.Actors, a)
	}
	for _, n := range p.Boot[:cap(p.Boot)] {
		n.Args = open(n.Args)
		out.Boot = append(out.Boot, n)
	}
	return out
}

func TestNothingHandedInIsChanged(t *testing.T) {
	for _, s := range []string{"push 1; zero 4; push 2; jump 5; push 3; pop", "push 1; push 2; send 2", "push 1; jump 0", "pop", "send 6", ""} {
		p := roomy(s)
		before := whole(p)
		for _, handler := range []int{0, 1, 5, 6, -1} {
			Depths(p, handler)
			Most(p, handler)
		}
		Check(p)
		if !reflect.DeepEqual(whole(p), before) {
			t.Errorf("P4.2: %q was changed", s)
		}
	}
	wantDepths(t, "code with spare room", roomy("push 1; push 2; send 2"), 0, []int{0, 1, 2, 0})
	wantDepths(t, "empty code with spare room", roomy(""), 0, []int{0})
	wantRefused(t, "a handler in the spare room", roomy("end"), 6, api.ErrWho)
	wantRefused(t, "a send to a handler in the spare room", roomy("send 6"), 0, api.ErrWho)
}

func TestAnswersAreNewMemory(t *testing.T) {
	p := around(code("push 1; push 2; add; end"))
	first, _ := Depths(p, 0)
	second, _ := Depths(p, 0)
	for i := range first[:cap(first)] {
		first[:cap(first)][i] = 99
	}
	want := []int{0, 1, 2, 1, -1}
	if !slices.Equal(second, want) {
		t.Errorf("P4.2: two answers share memory: %v", second)
	}
	wantDepths(t, "a program whose first answer was written over", p, 0, want)
	p.Handlers[0].Code[1] = api.Instr{Op: ops.Copy}
	p.Handlers[0].Code[2] = api.Instr{Op: ops.Pop}
	p.Handlers[0].Code[3] = api.Instr{Op: ops.Neg}
	wantDepths(t, "a program that was changed", p, 0, []int{0, 1, 2, 1, 1})
	if !slices.Equal(second, want) {
		t.Errorf("P4.2: an answer is changed with what it was made of: %v", second)
	}
}

func TestNilIsEmpty(t *testing.T) {
	p := around(nil)
	q := around([]api.Instr{})
	q.Boot, q.Actors[0].Regs = []api.Note{}, []int{}
	for _, x := range []api.Program{p, q} {
		wantDepths(t, "an empty code", x, 0, []int{0})
		wantCheck(t, "an empty code", x, api.OK)
	}
}
