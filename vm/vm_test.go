package vm

import (
	"math"
	"reflect"
	"slices"
	"strings"
	"testing"

	"gavotte/api"
	"gavotte/asm"
	"gavotte/flow"
	"gavotte/ops"
	"gavotte/prog"
	"gavotte/sums"
)

// code is instructions in words, one behind the other by "; "; none of an empty text.
func code(s string) []api.Instr {
	if s != "" {
		s = strings.ReplaceAll(s, "; ", "\n") + "\n"
	}
	list, e := asm.Parse(s)
	if e != api.OK {
		panic(s)
	}
	return list
}

// around is a program whose handler 0 has that code and so many arguments, and whose handlers 1 to 5 are empty, with 0 to 4 arguments, to be sent to. Of its three actors the first alone has a timer.
func around(list []api.Instr, args int) api.Program {
	p := api.Program{Handlers: []api.Handler{{Args: args, Code: list}}, Actors: []api.Actor{{Timer: 1}, {Timer: -1}, {Timer: -1}}, Fuel: 100}
	for n := range api.MaxArgs + 1 {
		p.Handlers = append(p.Handlers, api.Handler{Args: n})
	}
	return p
}

// state is one that has something in each field that a run may change.
func state() api.Local {
	return api.Local{Regs: []int{70, 71, 72}, Sent: 5, Over: 2}
}

func note(to, handler int, args ...int) api.Note {
	return api.Note{To: to, Handler: handler, Args: args}
}

// same compares results as the document does: nil is an empty list.
func same(a, b Result) bool {
	return slices.Equal(a.Local.Regs, b.Local.Regs) && a.Local.Armed == b.Local.Armed && a.Local.Down == b.Local.Down && a.Local.Sent == b.Local.Sent && a.Local.Over == b.Local.Over &&
		slices.EqualFunc(a.Notes, b.Notes, prog.SameNote) && a.Steps == b.Steps
}

// wantRun is of actor 0.
func wantRun(t *testing.T, what string, p api.Program, l api.Local, args []int, want Result) {
	t.Helper()
	wantRunOf(t, what, p, 0, l, 0, args, want)
}

func wantRunOf(t *testing.T, what string, p api.Program, who int, l api.Local, handler int, args []int, want Result) {
	t.Helper()
	if !May(p, who, l, handler, args) {
		t.Errorf("P6.1: May says no to %s", what)
	}
	if got := Run(p, who, l, handler, args); !same(got, want) {
		t.Errorf("P6.1, P6.2: Run of %s is\n%+v, not\n%+v", what, got, want)
	}
}

// wantRegs is of code that leaves those registers, and nothing else.
func wantRegs(t *testing.T, s string, args []int, steps int, regs ...int) {
	t.Helper()
	want := Result{Local: state(), Steps: steps}
	want.Local.Regs = regs
	wantRun(t, s, around(code(s), len(args)), state(), args, want)
}

// wantDown is of code by which the actor goes down: nothing else is left of it.
func wantDown(t *testing.T, s string, down, steps int) {
	t.Helper()
	for _, armed := range []bool{false, true} {
		l := state()
		l.Armed = armed
		want := Result{Local: l, Steps: steps}
		want.Local.Down = down
		wantRun(t, s, around(code(s), 0), l, nil, want)
	}
}

// wantNotes is of code that sends those, and does nothing else.
func wantNotes(t *testing.T, s string, args []int, steps int, notes ...api.Note) {
	t.Helper()
	want := Result{Local: state(), Notes: notes, Steps: steps}
	want.Local.Sent += len(notes)
	wantRun(t, s, around(code(s), len(args)), state(), args, want)
}

func TestStackInstructions(t *testing.T) {
	wantRegs(t, "push 3; store 0", nil, 2, 3, 71, 72)
	wantRegs(t, "push -9223372036854775808; store 2", nil, 2, 70, 71, math.MinInt)
	wantRegs(t, "push 9223372036854775807; store 1", nil, 2, 70, math.MaxInt, 72)
	wantRegs(t, "push 3; push 4; pop; store 0", nil, 4, 3, 71, 72)
	wantRegs(t, "push 3; copy; store 0; store 1", nil, 4, 3, 3, 72)
	wantRegs(t, "push 3; push 4; copy; store 0; store 1; store 2", nil, 6, 4, 4, 3)
	wantRegs(t, "push 3; push 4; store 0; store 1", nil, 4, 4, 3, 72)
	wantRegs(t, "push 3; push 4; swap; store 0; store 1", nil, 5, 3, 4, 72)
	wantRegs(t, "push 2; push 3; push 4; swap; store 0; store 1; store 2", nil, 7, 3, 4, 2)
	wantRegs(t, "push 1; push 2; push 3; push 4; push 5; push 6; push 7; push 8; sub; sub; sub; sub; sub; sub; sub; store 0", nil, 16, -4, 71, 72)
	wantRegs(t, "push 1; push 2", nil, 2, 70, 71, 72)
}

func TestRegisters(t *testing.T) {
	wantRegs(t, "load 0; store 2", nil, 2, 70, 71, 70)
	wantRegs(t, "load 2; load 1; store 2; store 1", nil, 4, 70, 72, 71)
	wantRegs(t, "push 5; store 0; load 0; store 1", nil, 4, 5, 5, 72)
	wantRegs(t, "push 5; store 0; push 6; store 0", nil, 4, 6, 71, 72)
	for reg := range api.MaxRegs { // those that it has, and those that it has not
		list := []api.Instr{{Op: ops.Push, A: 9}, {Op: ops.Store, A: reg}, {Op: ops.Load, A: reg}, {Op: ops.Store, A: 0}}
		for has := range api.MaxRegs + 1 {
			l := api.Local{Regs: slices.Repeat([]int{7}, has)}
			want := Result{Local: api.Local{Regs: slices.Clone(l.Regs)}, Steps: 4}
			if reg < has {
				want.Local.Regs[reg] = 9
				want.Local.Regs[0] = 9
			} else if has > 0 {
				want.Local.Regs[0] = 0
			}
			wantRun(t, "load and store of one register", around(list, 0), l, nil, want)
		}
	}
}

// What the program gives an actor at the start does not tell how many registers it has now.
func TestRegistersAreTheStates(t *testing.T) {
	p := around(code("load 1; store 0; push 4; store 1"), 0)
	p.Actors[0].Regs = []int{1, 2, 3, 4}
	wantRun(t, "a state with fewer registers", p, api.Local{Regs: []int{8}}, nil, Result{Local: api.Local{Regs: []int{0}}, Steps: 4})
	p.Actors[0].Regs = nil
	wantRun(t, "a state with more registers", p, api.Local{Regs: []int{8, 9}}, nil, Result{Local: api.Local{Regs: []int{9, 4}}, Steps: 4})
}

func TestArgumentsAndSelf(t *testing.T) {
	wantRegs(t, "arg 0; store 0", []int{-5}, 2, -5, 71, 72)
	wantRegs(t, "arg 0; arg 1; sub; store 0", []int{10, 4}, 4, 6, 71, 72)
	wantRegs(t, "arg 3; store 0; arg 1; store 1; arg 2; store 2", []int{11, 22, 33, 44}, 6, 44, 22, 33)
	wantRegs(t, "arg 0; arg 0; add; store 0", []int{math.MaxInt}, 4, -2, 71, 72)
	for who := range 3 {
		want := Result{Local: api.Local{Regs: []int{who}}, Steps: 2}
		wantRunOf(t, "self", around(code("self; store 0"), 0), who, api.Local{Regs: []int{9}}, 0, nil, want)
	}
}

// Every sum, a the lower one, at numbers that wrap, too.
func TestSums(t *testing.T) {
	numbers := []int{0, 1, -1, 2, 3, -7, 7, math.MaxInt, math.MinInt}
	for _, a := range numbers {
		for op := ops.Add; op <= ops.Not; op++ {
			if op == ops.Neg || op == ops.Not {
				n, _ := sums.One(op, a)
				wantSum(t, []api.Instr{{Op: ops.Push, A: a}, {Op: op}}, n)
				continue
			}
			for _, b := range numbers {
				list := []api.Instr{{Op: ops.Push, A: a}, {Op: ops.Push, A: b}, {Op: op}}
				if n, down := sums.Two(op, a, b); down == api.Runs {
					wantSum(t, list, n)
				} else {
					wantDown(t, strings.TrimSuffix(strings.ReplaceAll(asm.Text(list), "\n", "; "), "; "), api.Divided, 3)
				}
			}
		}
	}
	wantRegs(t, "push 7; push -2; div; store 0; push 7; push 2; sub; store 1; push 3; push 2; less; store 2", nil, 12, -3, 5, 0)
	wantRegs(t, "push 9223372036854775807; push 1; add; store 0; push 4611686018427387904; push 2; mul; store 1; push -9223372036854775808; neg; store 2", nil, 11, math.MinInt, math.MinInt, math.MinInt)
	wantRegs(t, "push -9223372036854775808; push -1; div; store 0; push -9223372036854775808; push -1; mod; store 1; push 0; not; store 2", nil, 11, math.MinInt, 0, 1)
}

// wantSum holds that code leaves one number, above one that it does not touch.
func wantSum(t *testing.T, list []api.Instr, n int) {
	t.Helper()
	whole := slices.Concat(code("push 33"), list, code("store 0; store 1"))
	want := Result{Local: state(), Steps: len(whole)}
	want.Local.Regs[0], want.Local.Regs[1] = n, 33
	wantRun(t, asm.Text(list), around(whole, 0), state(), nil, want)
}

func TestTheEnd(t *testing.T) {
	wantRegs(t, "", nil, 0, 70, 71, 72)
	wantRegs(t, "end", nil, 1, 70, 71, 72)
	wantRegs(t, "end; push 1; store 0", nil, 1, 70, 71, 72)
	wantRegs(t, "push 1; store 0; end; push 2; store 0", nil, 3, 1, 71, 72)
	wantRegs(t, "push 1; end", nil, 2, 70, 71, 72)
	wantRegs(t, "push 1; store 0", nil, 2, 1, 71, 72)
	wantRegs(t, "jump 1", nil, 1, 70, 71, 72)
	wantRegs(t, "jump 3; push 1; store 0", nil, 1, 70, 71, 72)
	wantRegs(t, "push 0; zero 4; push 1; store 0", nil, 2, 70, 71, 72)
}

func TestJumps(t *testing.T) {
	wantRegs(t, "jump 3; push 1; store 0; push 2; store 1", nil, 3, 70, 2, 72)
	wantRegs(t, "push 0; zero 4; push 1; store 0; push 2; store 1", nil, 4, 70, 2, 72)
	wantRegs(t, "push 5; zero 4; push 1; store 0; push 2; store 1", nil, 6, 1, 2, 72)
	wantRegs(t, "push -1; zero 4; push 1; store 0; push 2; store 1", nil, 6, 1, 2, 72)
	wantRegs(t, "push 1; zero 2; push 3; store 0", nil, 4, 3, 71, 72)
	wantRegs(t, "push 4; push 0; zero 3; store 0", nil, 4, 4, 71, 72)
	wantRegs(t, "jump 4; push 3; store 0; end; jump 1", nil, 5, 3, 71, 72)
	for n := range 10 { // a loop that counts down
		wantRegs(t, "arg 0; copy; zero 6; push 1; sub; jump 1; store 0", []int{n}, 4+5*n, 0, 71, 72)
	}
}

func TestSends(t *testing.T) {
	wantNotes(t, "push 0; send 1", nil, 2, note(0, 1))
	wantNotes(t, "push 2; send 1", nil, 2, note(2, 1))
	wantNotes(t, "push 7; push 1; send 2", nil, 3, note(1, 2, 7))
	wantNotes(t, "push 7; push 8; push 1; send 3", nil, 4, note(1, 3, 7, 8))
	wantNotes(t, "push 6; push 7; push 8; push 9; push 2; send 5", nil, 6, note(2, 5, 6, 7, 8, 9))
	wantNotes(t, "arg 0; arg 1; arg 2; self; send 4", []int{11, 22, 33}, 5, note(0, 4, 11, 22, 33))
	wantNotes(t, "push 3; push 1; send 2; push 4; push 2; send 2; push 1; send 1", nil, 8, note(1, 2, 3), note(2, 2, 4), note(1, 1))
	wantNotes(t, "push 1; push 2; copy; send 2; send 1", nil, 5, note(2, 2, 2), note(1, 1))
	wantNotes(t, "arg 0; push 1; send 0", []int{math.MinInt}, 3, note(1, 0, math.MinInt))
	wantNotes(t, "push 1; push 0; push 2; push 4; push 5; push 6; push 7; push 1; send 5; send 3", nil, 10, note(1, 5, 4, 5, 6, 7), note(2, 3, 1, 0))
}

// send takes its numbers, and no more than them.
func TestSendLeavesWhatIsBelow(t *testing.T) {
	want := Result{Local: state(), Notes: []api.Note{note(1, 3, 5, 6)}, Steps: 6}
	want.Local.Regs[0] = 9
	want.Local.Sent = 6
	wantRun(t, "a send above a number", around(code("push 9; push 5; push 6; push 1; send 3; store 0"), 0), state(), nil, want)
}

func TestSendsToNobody(t *testing.T) {
	for _, to := range []string{"3", "-1", "8", "4294967296", "9223372036854775807", "-9223372036854775808"} {
		wantDown(t, "push "+to+"; send 1", api.Lost, 2)
		wantDown(t, "push 1; push 2; push "+to+"; send 3; push 3; store 0", api.Lost, 4)
	}
	wantDown(t, "push 9; store 0; push 1; send 1; push 3; send 1; push 1; send 1; end", api.Lost, 6)
	wantDown(t, "calm; arm; calm; push 3; send 1", api.Lost, 5)
	wantDown(t, "arm; push 3; send 1", api.Lost, 3)
	wantNotes(t, "push 1; zero 3; end; push 3; send 1", nil, 3) // what is not come to
}

func TestDividedByNought(t *testing.T) {
	for _, op := range []string{"div", "mod"} {
		wantDown(t, "push 1; push 0; "+op, api.Divided, 3)
		wantDown(t, "push 0; push 0; "+op+"; pop; end", api.Divided, 3)
		wantDown(t, "push 9; store 0; push 7; push 1; send 2; arm; push 1; push 0; "+op+"; store 1", api.Divided, 9)
		wantDown(t, "calm; push 0; copy; "+op, api.Divided, 4)
		wantRegs(t, "push 0; push 5; "+op+"; store 0", nil, 4, 0, 71, 72)
	}
}

func TestStarved(t *testing.T) {
	wantDown(t, "jump 0", api.Starved, 100)
	wantDown(t, "push 1; pop; jump 0", api.Starved, 100)
	wantDown(t, "push 9; store 0; push 1; send 1; arm; jump 0", api.Starved, 100)
	wantDown(t, "calm; jump 1", api.Starved, 100)
	for _, x := range []struct {
		s     string
		steps int
		armed bool
	}{{"arm; calm; calm; arm", 4, true}, {"arm; arm; arm; end; calm", 4, true}, {"calm; jump 3; end; arm; jump 2", 5, true}, {"push 0; zero 3; end; arm; end; end", 4, true}, {"push 1; zero 3; end; arm", 3, false}, {"arm", 1, true}} {
		for fuel := 1; fuel <= api.MaxFuel; fuel++ {
			p := around(code(x.s), 0)
			p.Fuel = fuel
			want := Result{Local: state(), Steps: x.steps}
			want.Local.Armed = x.armed
			if fuel < x.steps {
				want = Result{Local: state(), Steps: fuel}
				want.Local.Down = api.Starved
			}
			wantRun(t, x.s, p, state(), nil, want)
		}
	}
	p := around(nil, 0)
	p.Fuel = 1
	wantRun(t, "no code, with little fuel", p, state(), nil, Result{Local: state()})
}

// The document's own example leaves one number more each time that it comes round, and so is refused ahead of running.
func TestCodeThatFlowRefuses(t *testing.T) {
	for _, s := range []string{"push 1; jump 0", "pop", "push 1; zero 3; push 2"} {
		p := around(code(s), 0)
		if May(p, 0, state(), 0, nil) || !same(Run(p, 0, state(), 0, nil), Result{}) || May(p, 0, state(), 1, nil) {
			t.Errorf("P6.1: %s may be run", s)
		}
	}
}

// What comes first is told, when two things would bring it down.
func TestTheFirstFall(t *testing.T) {
	for fuel, want := range map[int][2]int{2: {api.Starved, 2}, 3: {api.Divided, 3}, 4: {api.Divided, 3}} {
		p := around(code("push 1; push 0; div; push 3; send 1"), 0)
		p.Fuel = fuel
		l := state()
		fallen := state()
		fallen.Down = want[0]
		wantRun(t, "a division behind which nobody is sent to", p, l, nil, Result{Local: fallen, Steps: want[1]})
	}
	wantDown(t, "push 3; send 1; push 1; push 0; div", api.Lost, 2)
}

func TestTimers(t *testing.T) {
	for _, x := range []struct {
		s     string
		who   int
		was   bool
		want  bool
		steps int
	}{
		{"", 0, false, false, 0}, {"", 0, true, true, 0}, {"", 1, true, true, 0},
		{"arm", 0, false, true, 1}, {"arm", 0, true, true, 1}, {"calm", 0, false, false, 1}, {"calm", 0, true, false, 1},
		{"arm; calm", 0, false, false, 2}, {"calm; arm", 0, true, true, 2}, {"calm; arm", 0, false, true, 2}, {"arm; arm; calm; end; arm", 0, false, false, 4},
		{"arm", 1, false, false, 1}, {"arm", 2, false, false, 1}, {"arm", 1, true, true, 1}, {"calm", 1, true, false, 1}, {"calm; arm", 1, true, false, 2}, {"arm; calm; arm", 1, false, false, 3},
	} {
		l := state()
		l.Armed = x.was
		want := Result{Local: l, Steps: x.steps}
		want.Local.Armed = x.want
		wantRunOf(t, x.s, around(code(x.s), 0), x.who, l, 0, nil, want)
	}
	p := around(code("arm"), 0)
	p.Actors[2] = api.Actor{Timer: 0, Armed: true} // handler 0 is a Timer as well as any; what was Armed at the start does not count
	wantRunOf(t, "arm of a timer of handler 0", p, 2, api.Local{}, 0, nil, Result{Local: api.Local{Armed: true}, Steps: 1})
	p.Handlers[0].Code = nil
	wantRunOf(t, "a timer that was armed at the start", p, 2, api.Local{}, 0, nil, Result{Steps: 0})
}

func TestSentWraps(t *testing.T) {
	for _, x := range []struct{ was, want int }{{0, 3}, {-2, 1}, {math.MinInt, math.MinInt + 3}, {math.MaxInt - 3, math.MaxInt}, {math.MaxInt - 2, math.MinInt}, {math.MaxInt, math.MinInt + 2}} {
		l := api.Local{Sent: x.was, Over: x.was}
		want := Result{Local: api.Local{Sent: x.want, Over: x.was}, Notes: []api.Note{note(0, 1), note(1, 1), note(2, 1)}, Steps: 6}
		wantRun(t, "three sends", around(code("push 0; send 1; push 1; send 1; push 2; send 1"), 0), l, nil, want)
	}
}

// As many notes as fuel lets, and as great a code and stack as may be.
func TestTheMost(t *testing.T) {
	p := around(code("self; send 1; jump 0"), 0)
	p.Fuel = api.MaxFuel
	fallen := state()
	fallen.Down = api.Starved
	wantRun(t, "sends without end", p, state(), nil, Result{Local: fallen, Steps: api.MaxFuel})
	p.Handlers[0].Code = slices.Repeat(code("self; send 1"), api.MaxCode/2)
	want := Result{Local: state(), Notes: slices.Repeat([]api.Note{note(0, 1)}, api.MaxCode/2), Steps: api.MaxCode}
	want.Local.Sent += api.MaxCode / 2
	wantRun(t, "32 sends", p, state(), nil, want)
	for len(p.Actors) < api.MaxActors {
		p.Actors = append(p.Actors, api.Actor{Timer: -1})
	}
	for len(p.Handlers) < api.MaxHandlers {
		p.Handlers = append(p.Handlers, api.Handler{Args: 4})
	}
	p.Handlers[15].Code = code("arg 0; arg 1; arg 2; arg 3; push 1; push 2; push 3; push 7; send 15")
	want = Result{Local: state(), Notes: []api.Note{note(7, 15, 44, 1, 2, 3)}, Steps: 9}
	want.Local.Sent++
	wantRunOf(t, "the last handler of the last actor", p, 7, state(), 15, []int{11, 22, 33, 44}, want)
}

func TestMay(t *testing.T) {
	fit := func() (api.Program, int, api.Local, int, []int) {
		return around(code("end"), 2), 0, state(), 0, []int{1, 2}
	}
	p, who, l, handler, args := fit()
	wantMay := func(what string, want bool) {
		t.Helper()
		if got := May(p, who, l, handler, args); got != want {
			t.Errorf("P6.1: May of %s is %t", what, got)
		}
		got := Run(p, who, l, handler, args)
		if !want && !same(got, Result{}) || want && !same(got, Result{Local: l, Steps: 1}) {
			t.Errorf("P6.1: Run of %s is %+v", what, got)
		}
		p, who, l, handler, args = fit()
	}
	wantMay("what may be", true)
	for _, n := range []int{1, 2} {
		who = n
		wantMay("another actor", true)
	}
	for _, n := range []int{-1, 3, 8, 1 << 32, math.MaxInt, math.MinInt} {
		who = n
		wantMay("an actor that there is not", false)
	}
	for _, n := range []int{-1, 6, 16, 1 << 32, math.MaxInt, math.MinInt} {
		handler = n
		wantMay("a handler that there is not", false)
	}
	for _, list := range [][]int{nil, {}, {1}, {1, 2, 3}, {1, 2, 3, 4, 5}} {
		args = list
		wantMay("another number of arguments", false)
	}
	for n := range 12 {
		l.Regs = make([]int, n)
		wantMay("registers", n <= api.MaxRegs)
	}
	for _, n := range []int{api.Crashed, api.Starved, api.Divided, api.Lost, 5, -1, math.MinInt, math.MaxInt} {
		l.Down = n
		wantMay("an actor that is down", false)
	}
	l.Armed, l.Sent, l.Over = true, math.MinInt, -1
	wantMay("other states", true)
	p.Handlers[0].Args, args = 0, nil
	wantMay("no arguments, nil", true)
	p.Handlers[0].Args, args = 0, []int{}
	wantMay("no arguments, an empty list", true)
}

// refused are changes after which chapter 4's Check takes a program no more, none of them in what is run.
func refused() map[string]func(p *api.Program) {
	last := func(s string) func(p *api.Program) {
		return func(p *api.Program) { p.Handlers[5].Code = code(s) }
	}
	return map[string]func(p *api.Program){
		"17 handlers":      func(p *api.Program) { p.Handlers = append(p.Handlers, make([]api.Handler, 11)...) },
		"9 actors":         func(p *api.Program) { p.Actors = slices.Repeat([]api.Actor{{Timer: -1}}, 9) },
		"no fuel":          func(p *api.Program) { p.Fuel = 0 },
		"too much fuel":    func(p *api.Program) { p.Fuel = 257 },
		"Args 5":           func(p *api.Program) { p.Handlers[5].Args = 5 },
		"no such op":       func(p *api.Program) { p.Handlers[5].Code = []api.Instr{{Op: 26}} },
		"65 instructions":  last(strings.Repeat("arm; ", 64) + "arm"),
		"a jump out":       last("jump 2"),
		"a register":       last("load 8"),
		"a parameter":      last("arg 4"),
		"a send to none":   last("push 1; send 6"),
		"too few":          last("add"),
		"too many":         last(strings.Repeat("self; ", 9) + "end"),
		"two depths":       last("push 1; zero 3; push 2"),
		"a timer":          func(p *api.Program) { p.Actors[2].Timer = 6 },
		"9 registers":      func(p *api.Program) { p.Actors[2].Regs = make([]int, 9) },
		"a note to nobody": func(p *api.Program) { p.Boot = []api.Note{note(3, 1)} },
	}
}

func TestRefusedPrograms(t *testing.T) {
	for what, change := range refused() {
		p := around(code("push 3; store 0"), 0)
		change(&p)
		if May(p, 0, state(), 0, nil) || !same(Run(p, 0, state(), 0, nil), Result{}) {
			t.Errorf("P6.1: a program with %s may be run", what)
		}
	}
	if May(api.Program{}, 0, api.Local{}, 0, nil) || !same(Run(api.Program{}, 0, api.Local{}, 0, nil), Result{}) {
		t.Errorf("P6.1: no program may be run")
	}
}

// dice is a row of numbers that is the same each time.
type dice uint64

func (d *dice) below(n int) int {
	*d = *d*6364136223846793005 + 1442695040888963407
	return int(uint64(*d)>>33) % n
}

// thrown is code of any of the instructions, with jumps anywhere and numbers that are often actors'.
func thrown(d *dice) []api.Instr {
	list := make([]api.Instr, 1+d.below(16))
	for at := range list {
		op := 1 + d.below(25)
		if d.below(3) == 0 {
			op = []int{ops.Push, ops.Self, ops.Arg, ops.Load}[d.below(4)]
		}
		i := api.Instr{Op: op}
		switch ops.Operand(op) {
		case ops.Number:
			i.A = []int{0, 0, 1, 1, 2, 3, -1, math.MaxInt, math.MinInt}[d.below(9)]
		case ops.Reg:
			i.A = d.below(4)
		case ops.Param:
			i.A = d.below(2)
		case ops.Target:
			i.A = d.below(len(list) + 1)
		case ops.Kind:
			i.A = d.below(4)
		}
		list[at] = i
	}
	return list
}

// plain is the document's words once more, with lists that grow and shrink, each instruction from the state behind the one ahead of it.
func plain(p api.Program, who int, l api.Local, handler int, args []int) Result {
	now := api.Local{Regs: slices.Clone(l.Regs), Armed: l.Armed, Sent: l.Sent, Over: l.Over}
	fallen := func(down, steps int) Result {
		return Result{Local: api.Local{Regs: l.Regs, Armed: l.Armed, Down: down, Sent: l.Sent, Over: l.Over}, Steps: steps}
	}
	var stack []int
	var notes []api.Note
	list, at, steps := p.Handlers[handler].Code, 0, 0
	for at != len(list) {
		if steps+1 > p.Fuel {
			return fallen(api.Starved, steps)
		}
		steps++
		op, a := list[at].Op, list[at].A
		at++
		takes := ops.Pops(op)
		if op == ops.Send {
			takes += p.Handlers[a].Args
		}
		took := slices.Clone(stack[len(stack)-takes:])
		stack = stack[:len(stack)-takes]
		switch ops.Name(op) {
		case "push":
			stack = append(stack, a)
		case "copy":
			stack = append(stack, took[0], took[0])
		case "swap":
			stack = append(stack, took[1], took[0])
		case "load":
			stack = append(stack, append(slices.Clone(now.Regs), make([]int, 8)...)[a])
		case "store":
			for reg := range now.Regs {
				if reg == a {
					now.Regs[reg] = took[0]
				}
			}
		case "arg":
			stack = append(stack, args[a])
		case "self":
			stack = append(stack, who)
		case "neg", "not":
			n, _ := sums.One(op, took[0])
			stack = append(stack, n)
		case "jump":
			at = a
		case "zero":
			if took[0] == 0 {
				at = a
			}
		case "send":
			to := took[takes-1]
			if to < 0 || to > len(p.Actors)-1 {
				return fallen(api.Lost, steps)
			}
			notes = append(notes, note(to, a, took[:takes-1]...))
			now.Sent++
		case "arm":
			if p.Actors[who].Timer >= 0 {
				now.Armed = true
			}
		case "calm":
			now.Armed = false
		case "end":
			return Result{Local: now, Notes: notes, Steps: steps}
		case "pop":
		default:
			n, down := sums.Two(op, took[0], took[1])
			if down != 0 {
				return fallen(down, steps)
			}
			stack = append(stack, n)
		}
	}
	return Result{Local: now, Notes: notes, Steps: steps}
}

// Codes that are thrown, held against the document's words; and each ends within its fuel.
func TestThrownCodes(t *testing.T) {
	d := dice(3)
	ways := map[int]int{}
	sent := 0
	for range 60000 {
		p := around(thrown(&d), 2)
		p.Fuel = 1 + d.below(30)
		who := d.below(3)
		l := api.Local{Regs: []int{d.below(3), d.below(3), 9, 0}[:d.below(5)], Armed: d.below(2) == 0, Sent: math.MaxInt - d.below(2), Over: d.below(9)}
		args := []int{d.below(4), d.below(2)}
		if flow.Check(p) != api.OK {
			continue
		}
		got := Run(p, who, l, 0, args)
		if want := plain(p, who, l, 0, args); !same(got, want) {
			t.Fatalf("P6.1, P6.2: Run of %q by %d is\n%+v, not\n%+v", asm.Text(p.Handlers[0].Code), who, got, want)
		}
		if got.Steps > p.Fuel || got.Local.Down != api.Runs && len(got.Notes) > 0 {
			t.Fatalf("P6.3: Run of %q with fuel %d is %+v", asm.Text(p.Handlers[0].Code), p.Fuel, got)
		}
		ways[got.Local.Down]++
		sent += len(got.Notes)
	}
	for _, down := range []int{api.Runs, api.Starved, api.Divided, api.Lost} {
		if ways[down] < 20 {
			t.Errorf("%d runs end with Down %d: too few to tell", ways[down], down)
		}
	}
	if sent < 100 {
		t.Errorf("%d notes: too few to tell", sent)
	}
}

// open is a list with its spare room, as another one.
func open(list []int) []int { return append([]int{}, list[:cap(list)]...) }

// whole is a program with its lists' spare room laid open, each list another one.
func whole(p api.Program) api.Program {
	out := api.Program{Fuel: p.Fuel}
	for _, h := range p.Handlers[:cap(p.Handlers)] {
		out.Handlers = append(out.Handlers, api.Handler{Args: h.Args, Code: append([]api.Instr{}, h.Code[:cap(h.Code)]...)})
	}
	for _, a := range p.Actors[:cap(p.Actors)] {
		a.Regs = open(a.Regs)
		out.Actors = append(out.Actors, a)
	}
	for _, n := range p.Boot[:cap(p.Boot)] {
		n.Args = open(n.Args)
		out.Boot = append(out.Boot, n)
	}
	return out
}

// roomy is a program whose lists have spare room, with something in it.
func roomy(s string) api.Program {
	p := around(append(code(s), code("push 5; store 0")...)[:len(code(s))], 2)
	p.Handlers = append(p.Handlers, api.Handler{Code: code("push 5; store 0")})[:6]
	p.Actors = append(p.Actors, api.Actor{Timer: 1})[:3]
	p.Actors[0].Regs = []int{4, 5, 6}[:1]
	p.Boot = []api.Note{{Handler: 2, Args: []int{7, 8}[:1]}, {To: 9}}[:1]
	return p
}

func TestNothingHandedInIsChanged(t *testing.T) {
	for _, s := range []string{"push 9; store 0; push 9; store 2; push 8; store 1; arg 0; arg 1; push 2; send 3; self; send 1; arm", "push 9; store 0; push 3; send 1", "push 9; store 0; push 1; push 0; div", "push 9; store 0; jump 0", "pop", ""} {
		p := roomy(s)
		before := whole(p)
		l := api.Local{Regs: []int{1, 2, 3, 4}[:2], Sent: 1, Over: 1}
		args := []int{5, 6, 7, 8}[:2]
		for _, who := range []int{0, 2, 3, -1} {
			for _, handler := range []int{0, 1, 5, 6, -1} {
				May(p, who, l, handler, args)
				Run(p, who, l, handler, args)
			}
		}
		if !reflect.DeepEqual(whole(p), before) || !slices.Equal(open(args), []int{5, 6, 7, 8}) || !slices.Equal(open(l.Regs), []int{1, 2, 3, 4}) || l.Down != 0 || l.Sent != 1 || l.Armed {
			t.Errorf("P6.3: %q changed what was handed in", s)
		}
	}
	p := roomy("end")
	if May(p, 0, api.Local{}, 6, nil) || May(p, 3, api.Local{}, 1, nil) {
		t.Errorf("P6.1: what is in the spare room may be run")
	}
	want := Result{Local: api.Local{Regs: []int{1, 2}}, Steps: 4}
	want.Local.Regs[0] = 0
	wantRun(t, "a register in the spare room", around(code("push 9; store 2; load 2; store 0"), 0), api.Local{Regs: []int{1, 2, 3, 4}[:2]}, nil, want)
	fallen := Result{Local: api.Local{Down: api.Lost}, Steps: 2}
	wantRun(t, "a send to an actor in the spare room", roomy("push 3; send 1"), api.Local{}, []int{1, 2}, fallen)
}

// scratch writes over all lists of a result, their spare room as well.
func scratch(r Result) {
	all := [][]int{r.Local.Regs}
	for i, n := range r.Notes {
		all = append(all, n.Args)
		r.Notes[i] = note(-9, -9)
	}
	for _, list := range all {
		for i := range list[:cap(list)] {
			list[:cap(list)][i] = -99
		}
	}
}

func TestAnswersAreNewMemory(t *testing.T) {
	rows := map[string]Result{
		"arg 0; arg 1; push 1; send 3; arg 1; push 2; send 2; self; send 1": {Local: api.Local{Regs: []int{1, 2}, Sent: 3}, Notes: []api.Note{note(1, 3, 5, 6), note(2, 2, 6), note(0, 1)}, Steps: 9},
		"push 3; send 1": {Local: api.Local{Regs: []int{1, 2}, Down: api.Lost}, Steps: 2},
		"jump 0":         {Local: api.Local{Regs: []int{1, 2}, Down: api.Starved}, Steps: 100},
		"end":            {Local: api.Local{Regs: []int{1, 2}}, Steps: 1},
	}
	for s, want := range rows {
		p := around(code(s), 2)
		l := api.Local{Regs: []int{1, 2}}
		args := []int{5, 6}
		first := Run(p, 0, l, 0, args)
		second := Run(p, 0, l, 0, args)
		scratch(first)
		if !same(second, want) || !slices.Equal(l.Regs, []int{1, 2}) || !slices.Equal(args, []int{5, 6}) {
			t.Errorf("P6.3: %s: an answer shares memory: %+v", s, second)
		}
		l.Regs[0], args[0], p.Handlers[0].Code[0] = 88, 88, api.Instr{Op: ops.Calm}
		if !same(second, want) {
			t.Errorf("P6.3: %s: an answer is changed with what it was made of: %+v", s, second)
		}
	}
}

// The lists of one answer are each of their own: one that grows does not reach into another.
func TestListsOfOneAnswer(t *testing.T) {
	p := around(code("push 1; push 2; self; send 3; push 3; push 4; self; send 3; push 5; self; send 2"), 0)
	r := Run(p, 0, api.Local{Regs: []int{7}}, 0, nil)
	for i := range r.Notes {
		_ = append(r.Notes[i].Args, -99, -99)
	}
	_ = append(r.Local.Regs, -99, -99)
	want := Result{Local: api.Local{Regs: []int{7}, Sent: 3}, Notes: []api.Note{note(0, 3, 1, 2), note(0, 3, 3, 4), note(0, 2, 5)}, Steps: 11}
	if !same(r, want) {
		t.Errorf("P6.3: lists of one answer share memory: %+v", r)
	}
}

func TestNilIsEmpty(t *testing.T) {
	p := around(code("load 0; store 0; self; send 1"), 0)
	for _, regs := range [][]int{nil, {}} {
		for _, args := range [][]int{nil, {}} {
			want := Result{Local: api.Local{Sent: 1}, Notes: []api.Note{note(0, 1)}, Steps: 4}
			wantRun(t, "empty lists", p, api.Local{Regs: regs}, args, want)
		}
	}
}

// Nothing is kept from run to run.
func TestRunsAreApart(t *testing.T) {
	p := around(code("load 0; arg 0; add; store 0; load 0; push 1; send 2"), 1)
	l := api.Local{Regs: []int{1}}
	for n := range 3 {
		for range 2 {
			want := Result{Local: api.Local{Regs: []int{1 + n}, Sent: 1}, Notes: []api.Note{note(1, 2, 1+n)}, Steps: 7}
			wantRun(t, "a run behind another", p, l, []int{n}, want)
		}
	}
}
