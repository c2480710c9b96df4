package prog

import (
	"math"
	"reflect"
	"testing"

	"gavotte/api"
	"gavotte/ops"
)

// good is a program that may be, with something of everything: each kind of operand, a jump to the end, a timer and none, notes with arguments and without.
func good() api.Program {
	return api.Program{
		Handlers: []api.Handler{
			{Args: 0, Code: []api.Instr{{Op: ops.Push, A: -9}, {Op: ops.Jump, A: 4}, {Op: ops.Load, A: 7}, {Op: ops.Send, A: 1}}},
			{Args: 2, Code: []api.Instr{{Op: ops.Arg, A: 1}, {Op: ops.Zero, A: 5}, {Op: ops.Store, A: 0}, {Op: ops.Send, A: 2}, {Op: ops.Add}}},
			{},
		},
		Actors: []api.Actor{
			{Regs: []int{4, 5, 6}, Cap: 3, Timer: 0, Armed: true},
			{Regs: []int{7}, Cap: 16, Timer: -1},
			{Timer: 2},
		},
		Boot: []api.Note{{To: 2, Handler: 1, Args: []int{8, 9}}, {To: 0, Handler: 0}, {To: 1, Handler: 1, Args: []int{-1, -2}}},
		Fuel: 64,
	}
}

// change is one done to a program.
type change func(p *api.Program)

func with(changes ...change) api.Program {
	p := good()
	for _, f := range changes {
		f(&p)
	}
	return p
}

func wantCheck(t *testing.T, what string, p api.Program, want api.Errno) {
	t.Helper()
	if got := Check(p); got != want {
		t.Errorf("P3.1: Check of %s is %d, not %d", what, got, want)
	}
}

func fuel(n int) change { return func(p *api.Program) { p.Fuel = n } }

func handlers(n int) change {
	return func(p *api.Program) {
		for len(p.Handlers) < n {
			p.Handlers = append(p.Handlers, api.Handler{})
		}
	}
}

func actors(n int) change {
	return func(p *api.Program) {
		for len(p.Actors) < n {
			p.Actors = append(p.Actors, api.Actor{Timer: -1})
		}
	}
}

func boot(n int) change {
	return func(p *api.Program) {
		for len(p.Boot) < n {
			p.Boot = append(p.Boot, api.Note{})
		}
	}
}

func noActors(p *api.Program) { p.Actors = nil }

func args(handler, n int) change {
	return func(p *api.Program) { p.Handlers[handler].Args = n }
}

// length makes a handler's code longer, by instructions that are none if they are not looked at in time.
func length(handler, n, op int) change {
	return func(p *api.Program) {
		for len(p.Handlers[handler].Code) < n {
			p.Handlers[handler].Code = append(p.Handlers[handler].Code, api.Instr{Op: op})
		}
	}
}

func instr(handler, at, op, a int) change {
	return func(p *api.Program) { p.Handlers[handler].Code[at] = api.Instr{Op: op, A: a} }
}

func regs(actor, n int) change {
	return func(p *api.Program) { p.Actors[actor].Regs = make([]int, n) }
}

func room(actor, n int) change {
	return func(p *api.Program) { p.Actors[actor].Cap = n }
}

func timer(actor, n int, armed bool) change {
	return func(p *api.Program) { p.Actors[actor].Timer, p.Actors[actor].Armed = n, armed }
}

func to(note, n int) change { return func(p *api.Program) { p.Boot[note].To = n } }

func kind(note, n int) change { return func(p *api.Program) { p.Boot[note].Handler = n } }

func noteArgs(note, n int) change {
	return func(p *api.Program) { p.Boot[note].Args = make([]int, n) }
}

type row struct {
	what string
	do   change
	want api.Errno
}

func wantRows(t *testing.T, rows []row) {
	t.Helper()
	for _, r := range rows {
		wantCheck(t, r.what, with(r.do), r.want)
	}
}

func TestCheckTakes(t *testing.T) {
	wantCheck(t, "a good one", good(), api.OK)
	wantCheck(t, "one actor and no handlers", api.Program{Actors: []api.Actor{{Timer: -1}}, Fuel: 1}, api.OK)
	wantCheck(t, "nothing", api.Program{}, api.ErrArg)
	wantCheck(t, "a timer of a handler where there are none", api.Program{Actors: []api.Actor{{}}, Fuel: 1}, api.ErrWho)
	wantCheck(t, "a note where there are no handlers", api.Program{Actors: []api.Actor{{Timer: -1}}, Boot: []api.Note{{}}, Fuel: 1}, api.ErrWho)
}

func TestCheckCounts(t *testing.T) {
	wantRows(t, []row{
		{"16 handlers", handlers(16), api.OK}, {"17 handlers", handlers(17), api.ErrBig}, {"300 handlers", handlers(300), api.ErrBig},
		{"8 actors", actors(8), api.OK}, {"9 actors", actors(9), api.ErrBig}, {"300 actors", actors(300), api.ErrBig},
		{"16 notes", boot(16), api.OK}, {"17 notes", boot(17), api.ErrBig}, {"300 notes", boot(300), api.ErrBig},
		{"no actors", noActors, api.ErrArg},
		{"empty actors", func(p *api.Program) { p.Actors = p.Actors[:0] }, api.ErrArg},
		{"no notes", func(p *api.Program) { p.Boot = nil }, api.OK},
		{"fuel 1", fuel(1), api.OK}, {"fuel 256", fuel(256), api.OK},
		{"fuel 0", fuel(0), api.ErrArg}, {"fuel -1", fuel(-1), api.ErrArg}, {"fuel 257", fuel(257), api.ErrArg},
		{"the greatest fuel", fuel(math.MaxInt), api.ErrArg}, {"the least fuel", fuel(math.MinInt), api.ErrArg},
		{"fuel 2^32 + 1", fuel(1<<32 + 1), api.ErrArg},
	})
}

func TestCheckHandlers(t *testing.T) {
	wantRows(t, []row{
		{"Args 0", args(2, 0), api.OK}, {"Args 4", args(1, 4), api.ErrArg}, // the notes of handler 1 have two
		{"Args 5", args(1, 5), api.ErrArg}, {"Args -1", args(0, -1), api.ErrArg},
		{"the greatest Args", args(2, math.MaxInt), api.ErrArg}, {"the least Args", args(2, math.MinInt), api.ErrArg},
		{"64 instructions", length(2, 64, ops.End), api.OK}, {"65 instructions", length(2, 65, ops.End), api.ErrBig},
		{"64 that are none", length(2, 64, 0), api.ErrArg}, {"65 that are none", length(2, 65, 0), api.ErrBig},
		{"a jump to the end of 64", func(p *api.Program) { length(2, 64, ops.Jump)(p); p.Handlers[2].Code[63].A = 64 }, api.OK},
		{"a jump behind the end of 64", func(p *api.Program) { length(2, 64, ops.Jump)(p); p.Handlers[2].Code[63].A = 65 }, api.ErrJump},
	})
	p := with(handlers(4), args(3, 4))
	wantCheck(t, "Args 4 of a handler that nobody asks", p, api.OK)
	p.Handlers[3].Args = 5
	wantCheck(t, "Args 5 of a handler that nobody asks", p, api.ErrArg)
}

// wantOperand is what the operand of an op asks for, in a handler of 5 instructions with Args 2, of 3.
func wantOperand(op, a int) api.Errno {
	most, e := 0, api.ErrArg
	switch op {
	case ops.Push:
		return api.OK
	case ops.Load, ops.Store:
		most, e = 7, api.ErrReg
	case ops.Arg:
		most, e = 1, api.ErrReg
	case ops.Jump, ops.Zero:
		most, e = 5, api.ErrJump
	case ops.Send:
		most, e = 2, api.ErrWho
	}
	if a < 0 || a > most {
		return e
	}
	return api.OK
}

func TestCheckInstructions(t *testing.T) {
	numbers := []int{0, 1, 2, 3, 4, 5, 6, 7, 8, 9, 64, 256, 1 << 32, 1<<32 + 1, math.MaxInt, -1, -2, -8, math.MinInt, math.MinInt + 1}
	for op := ops.Push; op <= ops.End; op++ {
		for _, a := range numbers {
			for at := range 5 {
				if got, want := Check(with(instr(1, at, op, a))), wantOperand(op, a); got != want {
					t.Errorf("P3.1: Check of %s %d at %d is %d, not %d", ops.Name(op), a, at, got, want)
				}
			}
		}
	}
	for _, op := range []int{0, -1, 26, 27, 99, 256 + 1, 1<<32 + 1, math.MaxInt, math.MinInt} {
		for _, a := range numbers {
			wantCheck(t, "an op that is none", with(instr(1, 4, op, a)), api.ErrArg)
		}
	}
	wantCheck(t, "arg 0 of a handler with Args 0", with(instr(0, 0, ops.Arg, 0)), api.ErrReg)
	wantCheck(t, "arg -1 of a handler with Args 0", with(instr(0, 0, ops.Arg, -1)), api.ErrReg)
	wantCheck(t, "a send to a handler behind it", with(handlers(16), instr(0, 0, ops.Send, 15)), api.OK)
	wantCheck(t, "a send to the 17th of 16", with(handlers(16), instr(0, 0, ops.Send, 16)), api.ErrWho)
}

func TestCheckActors(t *testing.T) {
	wantRows(t, []row{
		{"no registers", regs(1, 0), api.OK}, {"8 registers", regs(1, 8), api.OK}, {"9 registers", regs(1, 9), api.ErrBig},
		{"Cap 0", room(2, 0), api.OK}, {"Cap 16", room(2, 16), api.OK}, {"Cap 17", room(2, 17), api.ErrArg}, {"Cap -1", room(2, -1), api.ErrArg},
		{"the greatest Cap", room(2, math.MaxInt), api.ErrArg}, {"the least Cap", room(2, math.MinInt), api.ErrArg},
		{"timer -1", timer(2, -1, false), api.OK}, {"timer -1, armed", timer(2, -1, true), api.ErrArg},
		{"timer 2, armed", timer(1, 2, true), api.OK}, {"timer 2, not armed", timer(1, 2, false), api.OK},
		{"a timer with arguments", timer(1, 1, false), api.ErrWho}, {"a timer with arguments, armed", timer(1, 1, true), api.ErrWho},
		{"timer 3 of 3", timer(1, 3, false), api.ErrWho}, {"timer -2", timer(1, -2, false), api.ErrWho}, {"timer -2, armed", timer(1, -2, true), api.ErrWho},
		{"the greatest timer", timer(1, math.MaxInt, false), api.ErrWho}, {"the least timer", timer(1, math.MinInt, true), api.ErrWho},
	})
}

func TestCheckNotes(t *testing.T) {
	wantRows(t, []row{
		{"a note to the last", to(1, 2), api.OK}, {"a note to the fourth of three", to(1, 3), api.ErrWho}, {"a note to -1", to(1, -1), api.ErrWho},
		{"a note to the greatest", to(1, math.MaxInt), api.ErrWho}, {"a note to the least", to(1, math.MinInt), api.ErrWho},
		{"a note with handler 2", kind(1, 2), api.OK}, {"a note with handler 3 of 3", kind(1, 3), api.ErrWho}, {"a note with handler -1", kind(1, -1), api.ErrWho},
		{"a note with the greatest handler", kind(1, math.MaxInt), api.ErrWho}, {"a note with the least handler", kind(1, math.MinInt), api.ErrWho},
		{"a note without arguments", noteArgs(0, 0), api.ErrArg}, {"a note with one too few", noteArgs(0, 1), api.ErrArg},
		{"a note with as many", noteArgs(0, 2), api.OK}, {"a note with one too many", noteArgs(0, 3), api.ErrArg},
		{"a note with one where there is none", noteArgs(1, 1), api.ErrArg}, {"a note with another handler's", kind(1, 1), api.ErrArg},
		{"the last note", to(2, 3), api.ErrWho},
	})
}

// faults stand in the order in which they are told.
func faults() []row {
	return []row{
		{"17 handlers", handlers(17), api.ErrBig}, {"9 actors", actors(9), api.ErrBig}, {"17 notes", boot(17), api.ErrBig},
		{"no actors", noActors, api.ErrArg}, {"fuel 0", fuel(0), api.ErrArg},
		{"Args 5 of the first handler", args(0, 5), api.ErrArg}, {"65 instructions of the first handler", length(0, 65, ops.End), api.ErrBig},
		{"an op that is none in the first handler", instr(0, 0, 99, 99), api.ErrArg}, {"a jump out of the first handler", instr(0, 1, ops.Jump, 99), api.ErrJump},
		{"a register in the first handler", instr(0, 2, ops.Load, 8), api.ErrReg}, {"a send in the first handler", instr(0, 3, ops.Send, 99), api.ErrWho},
		{"Args -1 of the second handler", args(1, -1), api.ErrArg}, {"65 instructions of the second handler", length(1, 65, ops.End), api.ErrBig},
		{"a parameter in the second handler", instr(1, 0, ops.Arg, 4), api.ErrReg}, {"a jump out of the second handler", instr(1, 1, ops.Zero, 99), api.ErrJump},
		{"a register in the second handler", instr(1, 2, ops.Store, -1), api.ErrReg}, {"a send in the second handler", instr(1, 3, ops.Send, -1), api.ErrWho},
		{"an operand in the second handler", instr(1, 4, ops.Add, 1), api.ErrArg},
		{"9 registers of the first actor", regs(0, 9), api.ErrBig}, {"the first actor's Cap", room(0, 17), api.ErrArg},
		{"the first actor's timer", timer(0, 9, true), api.ErrWho}, {"the first actor's arming", timer(0, -1, true), api.ErrArg},
		{"9 registers of the second actor", regs(1, 9), api.ErrBig}, {"the second actor's Cap", room(1, -1), api.ErrArg},
		{"the second actor's timer", timer(1, -2, false), api.ErrWho}, {"the second actor's arming", timer(1, -1, true), api.ErrArg},
		{"the first note's To", to(0, 3), api.ErrWho}, {"the first note's handler", kind(0, 3), api.ErrWho}, {"the first note's arguments", noteArgs(0, 4), api.ErrArg},
		{"the second note's To", to(1, -1), api.ErrWho}, {"the second note's handler", kind(1, -1), api.ErrWho}, {"the second note's arguments", noteArgs(1, 1), api.ErrArg},
	}
}

func TestCheckTellsTheFirst(t *testing.T) {
	all := faults()
	for i, first := range all {
		wantCheck(t, first.what, with(first.do), first.want)
		for _, then := range all[i+1:] { // the first one is done last, so that none takes it back
			wantCheck(t, first.what+" and "+then.what, with(then.do, first.do), first.want)
		}
	}
	p := good()
	for i := len(all) - 1; i > 3; i-- { // all at once: behind "no actors" there would be none left to change
		all[i].do(&p)
		wantCheck(t, all[i].what+" and all behind it", p, all[i].want)
	}
}

// others are changes that each make another program of a good one.
func others() []change {
	return []change{
		fuel(65), fuel(-64), args(1, 3), args(2, 1),
		instr(0, 0, ops.Push, 9), instr(0, 3, ops.Push, 1), instr(1, 4, ops.Sub, 0), instr(1, 4, 99, 0),
		func(p *api.Program) { c := p.Handlers[0].Code; c[0], c[1] = c[1], c[0] },
		func(p *api.Program) { p.Handlers[0].Code = p.Handlers[0].Code[:3] },
		func(p *api.Program) { p.Handlers[1].Code = nil },
		func(p *api.Program) { p.Handlers[2].Code = make([]api.Instr, 1) },
		func(p *api.Program) { p.Handlers = p.Handlers[:2] },
		func(p *api.Program) { p.Handlers = append(p.Handlers, api.Handler{}) },
		func(p *api.Program) { p.Handlers[0], p.Handlers[1] = p.Handlers[1], p.Handlers[0] },
		func(p *api.Program) { p.Handlers = nil },
		func(p *api.Program) { p.Actors[0].Regs[2]++ },
		func(p *api.Program) { p.Actors[0].Regs = p.Actors[0].Regs[:2] },
		func(p *api.Program) { p.Actors[2].Regs = make([]int, 1) },
		room(0, 4), room(2, 1), timer(0, 1, true), timer(0, 0, false), timer(2, 2, true), timer(1, 0, false),
		func(p *api.Program) { p.Actors = p.Actors[:2] },
		func(p *api.Program) { p.Actors = append(p.Actors, api.Actor{}) },
		func(p *api.Program) { p.Actors[0], p.Actors[1] = p.Actors[1], p.Actors[0] },
		noActors,
		to(0, 1), to(1, 1), to(2, 0), kind(0, 0), kind(1, 2), noteArgs(0, 2), noteArgs(1, 1), noteArgs(2, 0),
		func(p *api.Program) { p.Boot[2].Args[1]++ },
		func(p *api.Program) { a := p.Boot[0].Args; a[0], a[1] = a[1], a[0] },
		func(p *api.Program) { p.Boot = p.Boot[:2] },
		func(p *api.Program) { p.Boot = append(p.Boot, api.Note{}) },
		func(p *api.Program) { p.Boot[0], p.Boot[2] = p.Boot[2], p.Boot[0] },
		func(p *api.Program) { p.Boot = nil },
	}
}

func wantSame(t *testing.T, what string, a, b api.Program, want bool) {
	t.Helper()
	if Same(a, b) != want || Same(b, a) != want {
		t.Errorf("P3.2: Same of %s is %v and %v, not %v", what, Same(a, b), Same(b, a), want)
	}
}

func TestSame(t *testing.T) {
	wantSame(t, "two good ones", good(), good(), true)
	wantSame(t, "nothing", api.Program{}, api.Program{}, true)
	wantSame(t, "nothing and a good one", api.Program{}, good(), false)
	for i, f := range others() {
		wantSame(t, "a good one and another", good(), with(f), false)
		wantSame(t, "one and the same again", with(f), with(f), true)
		for _, g := range others()[i+1:] {
			if !reflect.DeepEqual(with(f), with(g)) {
				wantSame(t, "two others", with(f), with(g), false)
			}
		}
	}
}

func TestNilIsEmpty(t *testing.T) {
	empty := api.Program{Handlers: []api.Handler{}, Actors: []api.Actor{}, Boot: []api.Note{}}
	wantSame(t, "nil and empty lists", api.Program{}, empty, true)
	within := func(code []api.Instr, regs, args []int) api.Program {
		return api.Program{Handlers: []api.Handler{{Code: code}}, Actors: []api.Actor{{Regs: regs}}, Boot: []api.Note{{Args: args}}, Fuel: 1}
	}
	a, b := within(nil, nil, nil), within([]api.Instr{}, make([]int, 0, 3), []int{})
	wantSame(t, "nil and empty lists within", a, b, true)
	if Check(a) != api.OK || Check(b) != api.OK || Check(empty) != Check(api.Program{}) || Size(a) != 0 || Size(b) != 0 {
		t.Errorf("P3.1: nil and empty lists are not checked alike")
	}
	wantSame(t, "copies of them", Copy(a), Copy(b), true)
	if !SameNote(api.Note{To: 1}, api.Note{To: 1, Args: []int{}}) {
		t.Errorf("P3.2: a note with nil is not one with an empty list")
	}
}

func TestSameNote(t *testing.T) {
	note := func(to, handler int, args ...int) api.Note { return api.Note{To: to, Handler: handler, Args: args} }
	notes := []api.Note{note(0, 0), note(1, 0), note(0, 1), note(1, 2, 3), note(2, 2, 3), note(1, 1, 3), note(1, 2, 4), note(1, 2), note(1, 2, 3, 4), note(1, 2, 4, 3), note(1, 2, 3, 3), note(-1, -2, -3), note(2, 1, 3), note(1, 2, 0)}
	for i, a := range notes {
		for j, b := range notes {
			b.Args = append([]int{}, b.Args...)
			if SameNote(a, b) != (i == j) {
				t.Errorf("P3.2: SameNote(%v, %v) is %v", a, b, i != j)
			}
		}
	}
}

func TestSize(t *testing.T) {
	sizes := []struct {
		p    api.Program
		want int
	}{
		{good(), 9}, {api.Program{}, 0}, {with(length(2, 64, ops.End)), 73}, {with(length(0, 100, 0), noActors, fuel(0)), 105},
		{with(handlers(20)), 9}, {api.Program{Handlers: []api.Handler{{}, {Code: make([]api.Instr, 2)}, {Args: 7, Code: make([]api.Instr, 3)}}}, 5},
	}
	for _, s := range sizes {
		if got := Size(s.p); got != s.want {
			t.Errorf("P3.2: Size is %d, not %d", got, s.want)
		}
	}
}

// scribble writes over all that a program stands in, its lists' spare room too.
func scribble(p api.Program) {
	for _, h := range p.Handlers[:cap(p.Handlers)] {
		for i := range h.Code[:cap(h.Code)] {
			h.Code[:cap(h.Code)][i] = api.Instr{Op: -77, A: -77}
		}
	}
	for _, a := range p.Actors[:cap(p.Actors)] {
		fill(a.Regs)
	}
	for _, n := range p.Boot[:cap(p.Boot)] {
		fill(n.Args)
	}
	clear(p.Handlers[:cap(p.Handlers)])
	clear(p.Actors[:cap(p.Actors)])
	clear(p.Boot[:cap(p.Boot)])
}

func fill(list []int) {
	for i := range list[:cap(list)] {
		list[:cap(list)][i] = -77
	}
}

func TestCopy(t *testing.T) {
	for _, p := range append(bad(), good(), api.Program{}) {
		wantSame(t, "a program and its copy", p, Copy(p), true)
	}
	p := good()
	c := Copy(p)
	for _, f := range others() {
		q := Copy(p)
		f(&q)
		wantSame(t, "a program and its copy, which was changed", p, q, false)
		wantSame(t, "a program and its other copy", p, c, true)
	}
	scribble(c)
	wantSame(t, "a program whose copy was written over", p, good(), true)
	c = Copy(p)
	scribble(p)
	wantSame(t, "a copy of a program that was written over", c, good(), true)
}

// bad are programs that may not be; the other calls take them as they are.
func bad() []api.Program {
	var out []api.Program
	for _, f := range faults() {
		out = append(out, with(f.do))
	}
	return out
}

// roomy is a good program whose lists have spare room, cut from longer ones that tell if it is written to.
func roomy() api.Program {
	p := good()
	for i := range p.Handlers {
		n := len(p.Handlers[i].Code)
		p.Handlers[i].Code = append(p.Handlers[i].Code, api.Instr{Op: 71, A: 72}, api.Instr{Op: 73})[:n]
	}
	for i := range p.Actors {
		n := len(p.Actors[i].Regs)
		p.Actors[i].Regs = append(p.Actors[i].Regs, 74, 75)[:n]
	}
	for i := range p.Boot {
		n := len(p.Boot[i].Args)
		p.Boot[i].Args = append(p.Boot[i].Args, 76, 77)[:n]
	}
	p.Handlers = append(p.Handlers, api.Handler{Args: 78})[:3]
	p.Actors = append(p.Actors, api.Actor{Cap: 79})[:3]
	p.Boot = append(p.Boot, api.Note{To: 80})[:3]
	return p
}

// whole is a program with its lists' spare room laid open, each list another one.
func whole(p api.Program) api.Program {
	out := api.Program{Fuel: p.Fuel}
	for _, h := range p.Handlers[:cap(p.Handlers)] {
		out.Handlers = append(out.Handlers, api.Handler{Args: h.Args, Code: append([]api.Instr{}, h.Code[:cap(h.Code)]...)})
	}
	for _, a := range p.Actors[:cap(p.Actors)] {
		a.Regs = append([]int{}, a.Regs[:cap(a.Regs)]...)
		out.Actors = append(out.Actors, a)
	}
	for _, n := range p.Boot[:cap(p.Boot)] {
		n.Args = append([]int{}, n.Args[:cap(n.Args)]...)
		out.Boot = append(out.Boot, n)
	}
	return out
}

func TestNothingHandedInIsChanged(t *testing.T) {
	p, q := roomy(), roomy()
	before := whole(p)
	if Check(p) != api.OK || Size(p) != 9 || !Same(p, q) || !SameNote(p.Boot[0], q.Boot[0]) {
		t.Errorf("P3.3: spare room counts")
	}
	c := Copy(p)
	if !reflect.DeepEqual(whole(p), before) || !reflect.DeepEqual(whole(q), before) {
		t.Errorf("P3.3: what was handed in was changed")
	}
	grow(&c)
	scribble(c)
	if !reflect.DeepEqual(whole(p), before) {
		t.Errorf("P3.3: a copy stands in the spare room of what it was made of")
	}
}

// grow adds to each list of a program.
func grow(p *api.Program) {
	for i := range p.Handlers {
		p.Handlers[i].Code = append(p.Handlers[i].Code, api.Instr{Op: -1})
	}
	for i := range p.Actors {
		p.Actors[i].Regs = append(p.Actors[i].Regs, -1)
	}
	for i := range p.Boot {
		p.Boot[i].Args = append(p.Boot[i].Args, -1)
	}
	p.Handlers = append(p.Handlers, api.Handler{Args: -1})
	p.Actors = append(p.Actors, api.Actor{Cap: -1})
	p.Boot = append(p.Boot, api.Note{To: -1})
}

// Lists of a copy that share memory, or spare room, tread on each other when they grow.
func TestListsOfACopyAreEachTheirOwn(t *testing.T) {
	shared := []api.Instr{{Op: ops.Arm}, {Op: ops.End}}
	numbers := []int{1, 2, 3}
	p := api.Program{
		Handlers: []api.Handler{{Code: shared}, {Code: shared}, {Code: shared[:1]}, {Code: shared[:0]}},
		Actors:   []api.Actor{{Regs: numbers}, {Regs: numbers[:2]}, {Regs: numbers}, {Regs: numbers[:0]}},
		Boot:     []api.Note{{Args: numbers}, {Args: numbers[:2]}, {Args: numbers}, {Args: numbers[:0]}},
		Fuel:     1,
	}
	a, b := Copy(p), whole(p)
	for i := range p.Handlers { // without the spare room that whole lays open
		b.Handlers[i].Code = b.Handlers[i].Code[:len(p.Handlers[i].Code)]
		b.Actors[i].Regs = b.Actors[i].Regs[:len(p.Actors[i].Regs)]
		b.Boot[i].Args = b.Boot[i].Args[:len(p.Boot[i].Args)]
	}
	grow(&a)
	grow(&b)
	wantSame(t, "a copy whose lists grew", a, b, true)
	a.Handlers[0].Code[0].Op, a.Actors[0].Regs[0], a.Boot[0].Args[0] = -5, -6, -7
	b.Handlers[0].Code[0].Op, b.Actors[0].Regs[0], b.Boot[0].Args[0] = -5, -6, -7
	wantSame(t, "a copy with one list of each kind changed", a, b, true)
	if !reflect.DeepEqual(numbers, []int{1, 2, 3}) || shared[0].Op != ops.Arm || shared[1].Op != ops.End {
		t.Errorf("P3.3: a copy stands in the memory of what it was made of")
	}
}
