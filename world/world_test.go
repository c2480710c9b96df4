package world

import (
	"fmt"
	"math"
	"slices"
	"strings"
	"testing"

	"gavotte/api"
	"gavotte/flow"
	"gavotte/mail"
	"gavotte/ops"
	"gavotte/prog"
)

func id(from, n, last int) api.ID { return api.ID{From: from, N: n, Copy: last} }

func note(to, handler int, args ...int) api.Note {
	return api.Note{To: to, Handler: handler, Args: args}
}

func msg(from, n, last int, m api.Note) api.Message {
	return api.Message{ID: id(from, n, last), Note: m}
}

// program is three actors and four handlers, with something of everything: a full mailbox and a roomy one, an armed timer, a calm one and none; made anew each time, as tests change it.
func program() api.Program {
	return api.Program{
		Handlers: []api.Handler{
			{Code: []api.Instr{{Op: ops.Push, A: 8}, {Op: ops.Push, A: 9}, {Op: ops.Push, A: 1}, {Op: ops.Send, A: 1}}},
			{Args: 2, Code: []api.Instr{{Op: ops.Arg, A: 1}, {Op: ops.Store, A: 0}}},
			{},
			{Args: 4},
		},
		Actors: []api.Actor{
			{Regs: []int{4, 5, -6}, Cap: 3, Timer: 0, Armed: true},
			{Cap: 16, Timer: -1},
			{Regs: []int{-7}, Cap: 1, Timer: 2},
		},
		Boot: []api.Note{note(1, 1, 10, -11), note(2, 0), note(0, 2), note(2, 3, 1, 2, 3, 4), note(0, 0), note(1, 2)},
		Fuel: 64,
	}
}

// good is a world of that program, in which something has happened.
func good() api.World {
	return api.World{
		Actors: []api.Local{
			{Regs: []int{7, 0, -6}, Armed: true, Sent: 5, Over: 1},
			{Down: api.Crashed, Sent: 1},
			{Regs: []int{math.MinInt}, Over: 2},
		},
		Mail: []api.Message{
			msg(-1, 0, 0, note(1, 1, 10, -11)),
			msg(-1, 5, 2, note(1, 2)),
			msg(0, 3, 0, note(1, 1, 8, 9)),
			msg(0, 4, 1, note(0, 3, -1, 0, 1, math.MaxInt)),
			msg(1, 0, 0, note(2, 0)),
		},
		Used: api.Budget{Drop: 1, Dup: 3, Time: 2, Crash: 1},
	}
}

// told writes a world whole, not by the package's words; a nil list and an empty one are the same.
func told(w api.World) string {
	var out []string
	for _, l := range w.Actors {
		out = append(out, fmt.Sprint("actor ", l.Regs, l.Armed, l.Down, l.Sent, l.Over))
	}
	for _, m := range w.Mail {
		out = append(out, fmt.Sprint("message ", m.ID, m.Note.To, " ", m.Note.Handler, m.Note.Args))
	}
	return strings.Join(append(out, fmt.Sprint("used ", w.Used)), "\n")
}

func wantWorld(t *testing.T, what string, got, want api.World) {
	t.Helper()
	if told(got) != told(want) {
		t.Errorf("%s:\n got %s\nwant %s", what, told(got), told(want))
	}
}

func startOf(t *testing.T, p api.Program) api.World {
	t.Helper()
	w, e := Start(p)
	if e != api.OK {
		t.Fatalf("P9.1: Start is %d", e)
	}
	return w
}

func TestStart(t *testing.T) {
	want := api.World{
		Actors: []api.Local{{Regs: []int{4, 5, -6}, Armed: true}, {}, {Regs: []int{-7}, Over: 1}},
		Mail:   []api.Message{msg(-1, 0, 0, note(1, 1, 10, -11)), msg(-1, 1, 0, note(2, 0)), msg(-1, 2, 0, note(0, 2)), msg(-1, 4, 0, note(0, 0)), msg(-1, 5, 0, note(1, 2))},
	}
	wantWorld(t, "P9.1: Start", startOf(t, program()), want)
	two := program()
	two.Boot = two.Boot[:2]
	want.Actors[2].Over, want.Mail = 0, want.Mail[:2]
	wantWorld(t, "P9.1: Start with two notes", startOf(t, two), want)
}

func TestStartWithoutNotes(t *testing.T) {
	want := api.World{Actors: []api.Local{{Regs: []int{4, 5, -6}, Armed: true}, {}, {Regs: []int{-7}}}}
	for _, boot := range [][]api.Note{nil, {}} {
		p := program()
		p.Boot = boot
		wantWorld(t, "P9.1: Start without notes", startOf(t, p), want)
	}
	bare := api.Program{Actors: []api.Actor{{Timer: -1}}, Fuel: 1}
	wantWorld(t, "P9.1: Start of one actor alone", startOf(t, bare), api.World{Actors: make([]api.Local, 1)})
}

// Sixteen notes to one actor, whatever its Cap is.
func TestStartUpToCap(t *testing.T) {
	for room := 0; room <= api.MaxCap; room++ {
		for notes := 0; notes <= api.MaxBoot; notes++ {
			p := program()
			p.Actors[2].Cap, p.Boot = room, nil
			want := api.World{Actors: []api.Local{{Regs: []int{4, 5, -6}, Armed: true}, {}, {Regs: []int{-7}}}}
			for i := range notes {
				p.Boot = append(p.Boot, note(2, 1, i, -i))
				if i < room {
					want.Mail = append(want.Mail, msg(-1, i, 0, note(2, 1, i, -i)))
				} else {
					want.Actors[2].Over++
				}
			}
			wantWorld(t, fmt.Sprintf("P9.1: Start with %d notes to a Cap of %d", notes, room), startOf(t, p), want)
		}
	}
}

// Each note to an actor of its own: the mailboxes do not count together.
func TestStartCountsMailboxesByThemselves(t *testing.T) {
	p := program()
	p.Actors = nil
	p.Boot = nil
	want := api.World{}
	for i := range 8 {
		p.Actors = append(p.Actors, api.Actor{Cap: 1, Timer: -1})
		p.Boot = append(p.Boot, note(7-i, 2))
		want.Actors = append(want.Actors, api.Local{Over: 1})
		want.Mail = append(want.Mail, msg(-1, i, 0, note(7-i, 2)))
	}
	p.Boot = append(p.Boot, p.Boot...)
	wantWorld(t, "P9.1: Start with two notes to each, a Cap of 1", startOf(t, p), want)
}

// refused are programs that chapter 4's Check does not take.
func refused() map[string]api.Program {
	all := map[string]api.Program{"nothing": {}}
	add := func(what string, do func(p *api.Program)) {
		p := program()
		do(&p)
		all[what] = p
	}
	add("no actors", func(p *api.Program) { p.Actors = nil })
	add("nine actors", func(p *api.Program) { p.Actors = make([]api.Actor, 9) })
	add("no fuel", func(p *api.Program) { p.Fuel = 0 })
	add("a note to nobody", func(p *api.Program) { p.Boot[3].To = 3 })
	add("a note without arguments", func(p *api.Program) { p.Boot[0].Args = nil })
	add("seventeen notes", func(p *api.Program) { p.Boot = make([]api.Note, 17) })
	add("a Cap of 17", func(p *api.Program) { p.Actors[1].Cap = 17 })
	add("a jump out of the code", func(p *api.Program) { p.Handlers[2].Code = []api.Instr{{Op: ops.Jump, A: 2}} })
	add("a register that is none", func(p *api.Program) { p.Handlers[2].Code = []api.Instr{{Op: ops.Load, A: 8}} })
	add("too few on the stack", func(p *api.Program) { p.Handlers[2].Code = []api.Instr{{Op: ops.Pop}} })
	add("too many on the stack", func(p *api.Program) { p.Handlers[3].Code = slices.Repeat([]api.Instr{{Op: ops.Self}}, 9) })
	return all
}

func TestStartRefuses(t *testing.T) {
	seen := map[api.Errno]bool{}
	for what, p := range refused() {
		e := flow.Check(p)
		w, got := Start(p)
		if got != e || e == api.OK {
			t.Errorf("P9.1: Start of %s is %d, not %d", what, got, e)
		}
		wantWorld(t, "P9.1: Start of "+what, w, api.World{})
		seen[got] = true
	}
	for _, e := range []api.Errno{api.ErrArg, api.ErrBig, api.ErrJump, api.ErrReg, api.ErrWho, api.ErrStack} {
		if !seen[e] {
			t.Errorf("P9.1: no program is refused by %d", e)
		}
	}
}

func TestSendFromTheStart(t *testing.T) {
	w := good()
	got := Send(program(), w, -1, []api.Note{note(0, 2), note(0, 0), note(2, 2), note(1, 1, 3, 4)})
	want := good()
	want.Actors[0].Over++ // -1.0.0 is there already
	want.Actors[2].Over++ // its Cap is 1, and 1.0.0 goes there
	want.Mail = slices.Insert(want.Mail, 1, msg(-1, 1, 0, note(0, 0)), msg(-1, 3, 0, note(1, 1, 3, 4)))
	wantWorld(t, "P9.1: Send of -1", got, want)
}

func TestSendFromAnActor(t *testing.T) {
	w := good()
	w.Actors[0].Sent = 8
	got := Send(program(), w, 0, []api.Note{note(1, 2), note(0, 2), note(1, 1, 3, 4)})
	want := good()
	want.Actors[0].Sent = 8
	want.Mail = slices.Insert(want.Mail, 4, msg(0, 5, 0, note(1, 2)), msg(0, 6, 0, note(0, 2)), msg(0, 7, 0, note(1, 1, 3, 4)))
	wantWorld(t, "P9.1: Send of an actor", got, want)
	w = good()
	w.Actors[2].Sent = 1
	want = good()
	want.Actors[2].Sent = 1
	want.Mail = append(want.Mail, msg(2, 0, 0, note(0, 0)))
	wantWorld(t, "P9.1: the first one that an actor sends", Send(program(), w, 2, []api.Note{note(0, 0)}), want)
}

func TestSendOfAnIDThatIsThere(t *testing.T) {
	got := Send(program(), good(), 0, []api.Note{note(0, 0), note(1, 2)}) // 0.3.0 is there; of 0.4 another Copy
	want := good()
	want.Actors[0].Over++
	want.Mail = slices.Insert(want.Mail, 3, msg(0, 4, 0, note(1, 2)))
	wantWorld(t, "P9.1: Send of an ID that is there", got, want)
	w := good()
	got = Send(program(), w, 0, []api.Note{w.Mail[2].Note, note(1, 2)})
	want.Actors[0].Over, want.Actors[1].Over = 1, 1
	wantWorld(t, "P9.1: Send of a message that is there", got, want)
}

func TestSendOfWhoIsNobody(t *testing.T) {
	notes := []api.Note{note(0, 0), note(1, 2)}
	for _, from := range []int{-2, -3, 3, 4, 8, 99, math.MinInt, math.MaxInt, 1 << 32} {
		wantWorld(t, fmt.Sprintf("P9.1: Send of %d", from), Send(program(), good(), from, notes), good())
	}
	for from := -2; from < 2; from++ {
		if from != -1 {
			wantWorld(t, fmt.Sprintf("P9.1: Send of %d in no world", from), Send(program(), api.World{}, from, notes), api.World{})
		}
		wantWorld(t, fmt.Sprintf("P9.1: Send of %d of no notes", from), Send(program(), good(), from, nil), good())
		wantWorld(t, fmt.Sprintf("P9.1: Send of %d of empty notes", from), Send(program(), good(), from, []api.Note{}), good())
	}
}

// A note to nobody is left out, but those behind it have the numbers that they would have.
func TestSendToNobody(t *testing.T) {
	w := good()
	w.Actors[1].Sent = 7
	want := good()
	want.Actors[1].Sent = 7
	want.Mail = append(want.Mail, msg(1, 3, 0, note(0, 0)), msg(1, 6, 0, note(1, 2)))
	notes := []api.Note{note(0, 0), note(-1, 0), note(3, 0), note(1, 2)}
	wantWorld(t, "P9.1: Send to nobody", Send(program(), w, 1, notes), want)
	for _, to := range []int{-1, -2, 3, 4, 8, math.MinInt, math.MaxInt, 1 << 32} {
		for _, from := range []int{-1, 0, 1, 2} {
			wantWorld(t, fmt.Sprintf("P9.1: Send to %d", to), Send(program(), good(), from, []api.Note{note(to, 0), note(to, 1, 2, 3)}), good())
		}
	}
}

func TestSendWhereProgramAndWorldDiffer(t *testing.T) {
	notes := []api.Note{note(2, 0), note(1, 2), note(0, 0)}
	small := program()
	small.Actors = small.Actors[:1]
	want := good()
	want.Mail = append(want.Mail, msg(2, -1, 0, note(0, 0)))
	wantWorld(t, "P9.1: Send of and to actors that the program has not", Send(small, good(), 2, notes), want)
	few := api.World{Actors: good().Actors[:1]}
	want = api.World{Actors: good().Actors[:1], Mail: []api.Message{msg(0, 4, 0, note(0, 0))}}
	wantWorld(t, "P9.1: Send to actors that the world has not", Send(program(), few, 0, notes), want)
	wantWorld(t, "P9.1: Send of one that the world has not", Send(program(), few, 1, notes), few)
	wantWorld(t, "P9.1: Send of -1 where there is nobody", Send(program(), api.World{}, -1, notes), api.World{})
	wantWorld(t, "P9.1: Send of no program", Send(api.Program{}, good(), 0, notes), good())
}

func TestSendNumbersWrap(t *testing.T) {
	w := api.World{Actors: []api.Local{{Sent: math.MinInt, Over: math.MaxInt}, {}, {}}}
	notes := []api.Note{note(1, 2), note(0, 2), note(2, 2), note(2, 2), note(2, 2)}
	got := Send(program(), w, 0, notes)
	want := api.World{Actors: []api.Local{{Sent: math.MinInt, Over: math.MaxInt}, {}, {Over: 2}}}
	for i, n := range notes[:3] {
		want.Mail = append(want.Mail, msg(0, math.MaxInt-4+i, 0, n))
	}
	wantWorld(t, "P9.1: Send of a Sent that wraps", got, want)
	p := program()
	p.Actors[0].Cap = 0
	if got := Send(p, w, -1, []api.Note{note(0, 2)}).Actors[0].Over; got != math.MinInt {
		t.Errorf("P9.1: one more than the greatest Over is %d", got)
	}
	p.Actors[0].Cap = math.MinInt
	if got := Send(p, good(), -1, []api.Note{note(0, 2)}).Actors[0].Over; got != 2 {
		t.Errorf("P9.1: Over of a Cap below 0 is %d", got)
	}
}

// sendByWords is Send by the document's words: all messages in any order, sorted at the end.
func sendByWords(p api.Program, w api.World, from int, notes []api.Note) api.World {
	if from != -1 && (from < 0 || from >= len(w.Actors)) {
		return w
	}
	out := api.World{Actors: slices.Clone(w.Actors), Mail: slices.Clone(w.Mail), Used: w.Used}
	for place, n := range notes {
		if n.To < 0 || n.To >= len(p.Actors) || n.To >= len(w.Actors) {
			continue
		}
		number := place
		if from >= 0 {
			number = w.Actors[from].Sent - len(notes) + place
		}
		there, known := 0, false
		for _, m := range out.Mail {
			if m.Note.To == n.To {
				there++
			}
			known = known || m.ID == id(from, number, 0)
		}
		if known || there >= p.Actors[n.To].Cap {
			out.Actors[n.To].Over++
			continue
		}
		out.Mail = append(out.Mail, msg(from, number, 0, n))
	}
	slices.SortFunc(out.Mail, func(a, b api.Message) int {
		x, y := []int{a.ID.From, a.ID.N, a.ID.Copy}, []int{b.ID.From, b.ID.N, b.ID.Copy}
		return slices.Compare(x, y)
	})
	return out
}

// listsOf are all lists of up to most of some.
func listsOf[T any](some []T, most int) [][]T {
	all, last := [][]T{nil}, [][]T{nil}
	for range most {
		var next [][]T
		for _, l := range last {
			for _, x := range some {
				next = append(next, append(slices.Clone(l), x))
			}
		}
		all, last = append(all, next...), next
	}
	return all
}

func TestSendOfAll(t *testing.T) {
	p := program()
	noteLists := listsOf([]api.Note{note(0, 0), note(1, 1, 5, 6), note(2, 2), note(-1, 0), note(3, 0)}, 3)
	before := []api.Message{msg(-1, 1, 0, note(0, 0)), msg(0, 1, 0, note(0, 2)), msg(1, 2, 0, note(1, 2)), msg(1, 2, 1, note(2, 2))}
	count := 0
	for set := range 1 << len(before) {
		for room := range 3 {
			w := api.World{Actors: []api.Local{{Sent: 3}, {Sent: 4, Over: 9}, {}}, Used: api.Budget{Dup: 1}}
			for i, m := range before {
				if set>>i&1 == 1 {
					w.Mail = append(w.Mail, m)
				}
			}
			p.Actors[0].Cap, p.Actors[1].Cap, p.Actors[2].Cap = room, 2, room+1
			for _, notes := range noteLists {
				for from := -2; from <= 3; from++ {
					if got, want := Send(p, w, from, notes), sendByWords(p, w, from, notes); told(got) != told(want) {
						t.Fatalf("P9.1: Send of %d, %v, in\n%s\n got %s\nwant %s", from, notes, told(w), told(got), told(want))
					}
					count++
				}
			}
		}
	}
	if count < 10000 {
		t.Errorf("%d are too few to tell", count)
	}
}

// checkRow is a change of a world that may be, or of its program, and whether it still may be.
type checkRow struct {
	what string
	do   func(p *api.Program, w *api.World)
	want bool
}

func wantChecks(t *testing.T, rows []checkRow) {
	t.Helper()
	for _, r := range rows {
		p, w := program(), good()
		r.do(&p, &w)
		if got := Check(p, w); got != r.want {
			t.Errorf("P9.2: Check with %s is %v", r.what, got)
		}
	}
}

// inWorld is a change of the world alone.
func inWorld(do func(w *api.World)) func(p *api.Program, w *api.World) {
	return func(_ *api.Program, w *api.World) { do(w) }
}

func TestCheckTakes(t *testing.T) {
	p := program()
	if !Check(p, good()) {
		t.Error("P9.2: Check of a world that may be is false")
	}
	if !Check(p, startOf(t, p)) {
		t.Error("P9.2: Check of the start is false")
	}
	quiet := api.World{Actors: []api.Local{{Regs: make([]int, 3)}, {Regs: []int{}}, {Regs: make([]int, 1)}}}
	if !Check(p, quiet) {
		t.Error("P9.2: Check of a world without mail is false")
	}
	quiet.Mail = []api.Message{}
	if !Check(p, quiet) {
		t.Error("P9.2: Check of a world with empty mail is false")
	}
	if Check(p, api.World{}) || Check(api.Program{}, api.World{}) || Check(api.Program{}, good()) {
		t.Error("P9.2: Check of nothing is true")
	}
	for what, bad := range refused() {
		if Check(bad, good()) || Check(bad, api.World{Actors: make([]api.Local, len(bad.Actors))}) {
			t.Errorf("P9.2: Check of a program with %s is true", what)
		}
	}
}

func TestCheckActors(t *testing.T) {
	regs := func(who, n int) func(p *api.Program, w *api.World) {
		return inWorld(func(w *api.World) { w.Actors[who].Regs = make([]int, n) })
	}
	armed := func(who int, is bool) func(p *api.Program, w *api.World) {
		return inWorld(func(w *api.World) { w.Actors[who].Armed = is })
	}
	wantChecks(t, []checkRow{
		{"nothing else", inWorld(func(w *api.World) {}), true},
		{"one actor less", inWorld(func(w *api.World) { w.Actors, w.Mail = w.Actors[:2], w.Mail[:3] }), false},
		{"one actor more", inWorld(func(w *api.World) { w.Actors = append(w.Actors, api.Local{}) }), false},
		{"one actor more in the program", func(p *api.Program, _ *api.World) { p.Actors = append(p.Actors, api.Actor{Timer: -1}) }, false},
		{"no actors", inWorld(func(w *api.World) { w.Actors, w.Mail = nil, nil }), false},
		{"two registers of three", regs(0, 2), false}, {"four of three", regs(0, 4), false}, {"none of three", regs(0, 0), false}, {"three of three", regs(0, 3), true},
		{"one register of none", regs(1, 1), false}, {"none of none", regs(1, 0), true},
		{"two registers of one", regs(2, 2), false}, {"none of one", regs(2, 0), false},
		{"its registers turned", inWorld(func(w *api.World) { w.Actors[0].Regs, w.Actors[2].Regs = w.Actors[2].Regs, w.Actors[0].Regs }), false},
		{"any numbers", inWorld(func(w *api.World) { w.Actors[0].Regs = []int{math.MaxInt, math.MinInt, 1 << 50} }), true},
		{"a timer armed", armed(2, true), true}, {"a timer calm", armed(0, false), true}, {"armed without a timer", armed(1, true), false},
		{"armed, and calm in the program", func(p *api.Program, _ *api.World) { p.Actors[0].Armed = false }, true},
		{"armed, and no timer in the program", func(p *api.Program, _ *api.World) { p.Actors[0].Armed, p.Actors[0].Timer = false, -1 }, false},
	})
}

// Each number of an actor, at both ends of its range.
func TestCheckActorNumbers(t *testing.T) {
	for who := range 3 {
		number := func(what string, n int, want bool, do func(l *api.Local)) {
			p, w := program(), good()
			w.Mail = nil // the messages hang on Sent
			do(&w.Actors[who])
			if got := Check(p, w); got != want {
				t.Errorf("P9.2: Check with a %s of %d of actor %d is %v", what, n, who, got)
			}
		}
		for _, n := range []int{math.MinInt, -2, -1, 0, 1, 2, 3, 4, 5, 6, 256, 1 << 32, 1<<32 + 1, math.MaxInt} {
			number("Down", n, n >= 0 && n <= 4, func(l *api.Local) { l.Down = n })
		}
		for _, n := range []int{math.MinInt, -(1 << 41), -1, 0, 1, 16, 17, 1<<31 - 1, 1 << 31, 1 << 32, 1<<40 - 1, 1 << 40, 1<<41 - 2, 1<<41 - 1, 1 << 41, 1<<41 + 1, 1 << 42, math.MaxInt} {
			may := n >= 0 && n < 2199023255552
			number("Sent", n, may, func(l *api.Local) { l.Sent = n })
			number("Over", n, may, func(l *api.Local) { l.Over = n })
		}
	}
}

func TestCheckMail(t *testing.T) {
	wantChecks(t, []checkRow{
		{"no mail", inWorld(func(w *api.World) { w.Mail = nil }), true},
		{"two messages turned", inWorld(func(w *api.World) { w.Mail[0], w.Mail[1] = w.Mail[1], w.Mail[0] }), false},
		{"the last two turned", inWorld(func(w *api.World) { w.Mail[3], w.Mail[4] = w.Mail[4], w.Mail[3] }), false},
		{"one message twice", inWorld(func(w *api.World) { w.Mail[1] = w.Mail[0] }), false},
		{"one ID twice", inWorld(func(w *api.World) { w.Mail[1].ID = w.Mail[0].ID }), false},
		{"more messages to one than its Cap", inWorld(func(w *api.World) { w.Mail[0].Note, w.Mail[1].Note = note(2, 0), note(2, 2) }), true},
	})
}

// Each message of a world, with a note that chapter 3 would not take in Boot, and with ones that it would.
func TestCheckNotes(t *testing.T) {
	tried := map[bool]int{}
	for at := range good().Mail {
		for _, to := range []int{math.MinInt, -2, -1, 0, 1, 2, 3, 4, 7, 8, 1 << 32, math.MaxInt} {
			for _, handler := range []int{math.MinInt, -1, 0, 1, 2, 3, 4, 5, 15, 16, 1 << 32, math.MaxInt} {
				for args := range 6 {
					p, w := program(), good()
					w.Mail[at].Note = note(to, handler, make([]int, args)...)
					boot := program()
					boot.Boot = []api.Note{w.Mail[at].Note}
					want := prog.Check(boot) == api.OK
					if got := Check(p, w); got != want {
						t.Fatalf("P9.2: Check with a note %v at %d is %v", w.Mail[at].Note, at, got)
					}
					tried[want]++
				}
			}
		}
	}
	if tried[true] != 5*3*4 || tried[false] < 1000 {
		t.Errorf("P9.2: %v notes were tried", tried)
	}
	p, w := program(), good()
	p.Boot = nil
	if !Check(p, w) {
		t.Error("P9.2: Check hangs on which notes are in Boot")
	}
}

// Each message of a world alone, with any ID.
func TestCheckIDs(t *testing.T) {
	numbers := []int{math.MinInt, -2, -1, 0, 1, 2, 3, 4, 5, 6, 14, 15, 16, 17, 1<<41 - 2, 1<<41 - 1, 1 << 41, 1 << 32, math.MaxInt}
	sent := []int{5, 1<<41 - 1, 0}
	for _, from := range []int{math.MinInt, -3, -2, -1, 0, 1, 2, 3, 4, 8, 1 << 32, math.MaxInt} {
		for _, n := range numbers {
			for _, last := range numbers {
				for _, dup := range []int{0, 3, math.MaxInt} {
					below := 0
					switch {
					case from == -1:
						below = 16
					case from >= 0 && from < 3:
						below = sent[from]
					}
					want := n >= 0 && n < below && last >= 0 && last <= dup
					p, w := program(), good()
					for i := range sent {
						w.Actors[i].Sent = sent[i]
					}
					w.Mail = []api.Message{msg(from, n, last, note(0, 0))}
					w.Used.Dup = dup
					if got := Check(p, w); got != want {
						t.Fatalf("P9.2: Check with an ID %v, where %d were doubled, is %v", w.Mail[0].ID, dup, got)
					}
				}
			}
		}
	}
	wantChecks(t, []checkRow{
		{"a bad first N", inWorld(func(w *api.World) { w.Mail[0].ID.N = -1 }), false},
		{"a bad N between", inWorld(func(w *api.World) { w.Mail[3].ID.N = 5 }), false},
		{"a bad last N", inWorld(func(w *api.World) { w.Mail[4].ID.N = 1 }), false},
		{"a bad first From", inWorld(func(w *api.World) { w.Mail[0].ID.From = -2 }), false},
		{"a bad last From", inWorld(func(w *api.World) { w.Mail[4].ID.From = 3 }), false},
		{"a bad Copy between", inWorld(func(w *api.World) { w.Mail[3].ID.Copy = 4 }), false},
		{"a Sent that is below an N", inWorld(func(w *api.World) { w.Actors[0].Sent = 4 }), false},
		{"a Dup that is below a Copy", inWorld(func(w *api.World) { w.Used.Dup = 1 }), false},
		{"a Dup that is just a Copy", inWorld(func(w *api.World) { w.Used.Dup = 2 }), true},
	})
}

// The edges of To, From and Handler hang on how many actors and handlers there are.
func TestCheckHangsOnHowManyThereAre(t *testing.T) {
	for actors := 1; actors <= api.MaxActors; actors++ {
		for handlers := 1; handlers <= api.MaxHandlers; handlers++ {
			p := api.Program{Handlers: make([]api.Handler, handlers), Actors: slices.Repeat([]api.Actor{{Timer: -1}}, actors), Fuel: 1}
			w := api.World{Actors: slices.Repeat([]api.Local{{Sent: 1}}, actors), Mail: make([]api.Message, 1)}
			for n := -2; n < 20; n++ {
				w.Mail[0] = msg(n, 0, 0, note(0, 0))
				from := Check(p, w)
				w.Mail[0] = msg(0, 0, 0, note(n, 0))
				to := Check(p, w)
				w.Mail[0] = msg(0, 0, 0, note(0, n))
				handler := Check(p, w)
				if from != (n >= -1 && n < actors) || to != (n >= 0 && n < actors) || handler != (n >= 0 && n < handlers) {
					t.Fatalf("P9.2: Check with %d of %d actors, %d handlers is %v, %v, %v", n, actors, handlers, from, to, handler)
				}
			}
		}
	}
}

func TestCheckUsed(t *testing.T) {
	for _, n := range []int{math.MinInt, -1001, -1, 0, 1, 1000, 1001, 1 << 41, math.MaxInt} {
		for place := range 4 {
			w := good()
			w.Mail = nil // the copies hang on Dup
			four := []*int{&w.Used.Drop, &w.Used.Dup, &w.Used.Time, &w.Used.Crash}
			*four[place] = n
			if got := Check(program(), w); got != (n >= 0) {
				t.Errorf("P9.2: Check with %v used is %v", w.Used, got)
			}
		}
	}
}

// changes are done to a good world one by one, each of which makes it another one.
func changes() []checkRow {
	return []checkRow{
		{"another first register", inWorld(func(w *api.World) { w.Actors[0].Regs[0]++ }), true},
		{"another last register", inWorld(func(w *api.World) { w.Actors[0].Regs[2]-- }), true},
		{"another register of the last actor", inWorld(func(w *api.World) { w.Actors[2].Regs[0]-- }), true},
		{"two registers turned", inWorld(func(w *api.World) { slices.Reverse(w.Actors[0].Regs) }), true},
		{"one register less", inWorld(func(w *api.World) { w.Actors[0].Regs = w.Actors[0].Regs[:2] }), false},
		{"one register more", inWorld(func(w *api.World) { w.Actors[1].Regs = []int{0} }), false},
		{"no registers", inWorld(func(w *api.World) { w.Actors[2].Regs = nil }), false},
		{"not armed", inWorld(func(w *api.World) { w.Actors[0].Armed = false }), true},
		{"armed", inWorld(func(w *api.World) { w.Actors[2].Armed = true }), true},
		{"down", inWorld(func(w *api.World) { w.Actors[0].Down = api.Lost }), true},
		{"down otherwise", inWorld(func(w *api.World) { w.Actors[1].Down = api.Divided }), true},
		{"another Sent", inWorld(func(w *api.World) { w.Actors[1].Sent++ }), true},
		{"another Over", inWorld(func(w *api.World) { w.Actors[2].Over-- }), true},
		{"Sent and Over turned", inWorld(func(w *api.World) { w.Actors[2].Sent, w.Actors[2].Over = w.Actors[2].Over, w.Actors[2].Sent }), true},
		{"one actor less", inWorld(func(w *api.World) { w.Actors = w.Actors[:2] }), false},
		{"one actor more", inWorld(func(w *api.World) { w.Actors = append(w.Actors, api.Local{}) }), false},
		{"two actors turned", inWorld(func(w *api.World) { w.Actors[0], w.Actors[1] = w.Actors[1], w.Actors[0] }), false},
		{"no actors", inWorld(func(w *api.World) { w.Actors = nil }), false},
		{"another From", inWorld(func(w *api.World) { w.Mail[2].ID.From = -1; w.Mail[2].ID.N = 6 }), true},
		{"another N", inWorld(func(w *api.World) { w.Mail[2].ID.N-- }), true},
		{"another Copy", inWorld(func(w *api.World) { w.Mail[4].ID.Copy++ }), true},
		{"another To", inWorld(func(w *api.World) { w.Mail[4].Note.To-- }), true},
		{"another Handler", inWorld(func(w *api.World) { w.Mail[4].Note.Handler = 2 }), true},
		{"another first argument", inWorld(func(w *api.World) { w.Mail[3].Note.Args[0]-- }), true},
		{"another last argument", inWorld(func(w *api.World) { w.Mail[3].Note.Args[3]-- }), true},
		{"one argument less", inWorld(func(w *api.World) { w.Mail[3].Note.Args = w.Mail[3].Note.Args[:3] }), false},
		{"one argument more", inWorld(func(w *api.World) { w.Mail[4].Note.Args = []int{0} }), false},
		{"the first message less", inWorld(func(w *api.World) { w.Mail = w.Mail[1:] }), true},
		{"the last message less", inWorld(func(w *api.World) { w.Mail = w.Mail[:4] }), true},
		{"one message more", inWorld(func(w *api.World) { w.Mail = append(w.Mail, msg(1, 0, 1, note(2, 0))) }), true},
		{"two messages turned", inWorld(func(w *api.World) { w.Mail[0], w.Mail[1] = w.Mail[1], w.Mail[0] }), false},
		{"no mail", inWorld(func(w *api.World) { w.Mail = nil }), true},
		{"another Drop", inWorld(func(w *api.World) { w.Used.Drop++ }), true},
		{"another Dup", inWorld(func(w *api.World) { w.Used.Dup++ }), true},
		{"another Time", inWorld(func(w *api.World) { w.Used.Time++ }), true},
		{"another Crash", inWorld(func(w *api.World) { w.Used.Crash++ }), true},
		{"nothing used", inWorld(func(w *api.World) { w.Used = api.Budget{} }), false},
	}
}

// changed is a good world with one change.
func changed(r checkRow) api.World {
	w := good()
	r.do(nil, &w)
	return w
}

func TestChangesAreChecked(t *testing.T) {
	for _, r := range changes() {
		if got := Check(program(), changed(r)); got != r.want {
			t.Errorf("P9.2: Check with %s is %v", r.what, got)
		}
	}
}

func TestSame(t *testing.T) {
	if !Same(good(), good()) || !Same(api.World{}, api.World{}) {
		t.Error("P9.2: Same of two that are alike is false")
	}
	rows := append(changes(), checkRow{what: "nothing else", do: inWorld(func(w *api.World) {})})
	for i, a := range rows {
		for k, b := range rows {
			if got := Same(changed(a), changed(b)); got != (i == k) {
				t.Errorf("P9.2: Same is %v, with %s, and with %s", got, a.what, b.what)
			}
			if got := Text(changed(a)) == Text(changed(b)); got != (i == k) {
				t.Errorf("P9.3: that the Texts are the same is %v, with %s, and with %s", got, a.what, b.what)
			}
		}
	}
}

func TestNilIsEmpty(t *testing.T) {
	bare := api.World{Actors: []api.Local{{}}, Mail: []api.Message{{}}}
	empty := api.World{Actors: []api.Local{{Regs: []int{}}}, Mail: []api.Message{{Note: api.Note{Args: []int{}}}}}
	for _, two := range [][2]api.World{{bare, empty}, {{}, {Actors: []api.Local{}, Mail: []api.Message{}}}} {
		if !Same(two[0], two[1]) || !Same(two[1], two[0]) || Text(two[0]) != Text(two[1]) {
			t.Errorf("P9.2: a nil list and an empty one are not the same: %q, %q", Text(two[0]), Text(two[1]))
		}
	}
}

func TestCopy(t *testing.T) {
	worlds := []api.World{{}, good(), {Actors: []api.Local{}, Mail: []api.Message{}}, {Used: api.Budget{Drop: -1, Dup: -2, Time: -3, Crash: -4}}}
	for _, r := range changes() {
		worlds = append(worlds, changed(r))
	}
	for _, w := range worlds {
		got := Copy(w)
		wantWorld(t, "P9.2: Copy", got, w)
		if !Same(got, w) || !Same(w, got) {
			t.Errorf("P9.2: Copy is not the Same: %s", told(got))
		}
	}
}

func TestText(t *testing.T) {
	rows := []struct {
		what string
		w    api.World
		want string
	}{
		{"no actors", api.World{}, "0 0 0 0\n"},
		{"a good one", good(), "7 0 -6|1 0 5 1\n|0 1 1 0\n-9223372036854775808|0 0 0 2\n-1.0.0 1 1 10 -11\n-1.5.2 1 2\n0.3.0 1 1 8 9\n0.4.1 0 3 -1 0 1 9223372036854775807\n1.0.0 2 0\n1 3 2 1\n"},
		{"no registers", api.World{Actors: make([]api.Local, 2)}, "|0 0 0 0\n|0 0 0 0\n0 0 0 0\n"},
		{"one register", api.World{Actors: []api.Local{{Regs: []int{12}, Armed: true, Down: 4, Sent: 30, Over: 200}}}, "12|1 4 30 200\n0 0 0 0\n"},
		{"a message and no actors", api.World{Mail: []api.Message{msg(-1, 2, 3, note(4, 5))}}, "-1.2.3 4 5\n0 0 0 0\n"},
		{"messages out of order", api.World{Mail: []api.Message{msg(1, 0, 0, note(-4, -5, 6)), msg(0, 0, 0, note(1, 2))}}, "1.0.0 -4 -5 6\n0.0.0 1 2\n0 0 0 0\n"},
		{"below 0", api.World{Actors: []api.Local{{Down: -1, Sent: -2, Over: -3}}, Used: api.Budget{Drop: -4, Dup: -5, Time: -6, Crash: -7}}, "|0 -1 -2 -3\n-4 -5 -6 -7\n"},
		{"what was used", api.World{Used: api.Budget{Drop: 1, Dup: 20, Time: 300, Crash: math.MaxInt}}, "1 20 300 9223372036854775807\n"},
	}
	for _, r := range rows {
		if got := Text(r.w); got != r.want {
			t.Errorf("P9.2: Text of %s:\n got %q\nwant %q", r.what, got, r.want)
		}
	}
	two := program()
	two.Boot = two.Boot[:2]
	if got := Text(startOf(t, two)); got != "4 5 -6|1 0 0 0\n|0 0 0 0\n-7|0 0 0 0\n-1.0.0 1 1 10 -11\n-1.1.0 2 0\n0 0 0 0\n" {
		t.Errorf("P9.2: Text of a start is %q", got)
	}
}

// All small worlds of a few parts that are nearly the same in writing.
func TestUnlikeWorldsHaveUnlikeTexts(t *testing.T) {
	actors := listsOf([]api.Local{{}, {Regs: []int{0}}, {Regs: []int{1, 2}}, {Regs: []int{12}}, {Regs: []int{-1, 2}}, {Armed: true}, {Down: 1}, {Sent: 1}, {Over: 1}, {Sent: 10}, {Down: 1, Sent: 1}}, 2)
	mails := listsOf([]api.Message{{}, msg(0, 0, 0, note(0, 0, 0)), msg(0, 0, 0, note(0, 1, 0)), msg(0, 0, 0, note(1, 0, 0)), msg(0, 0, 0, note(0, 10)), msg(0, 0, 1, note(0, 0)), msg(0, 1, 0, note(0, 0)), msg(1, 0, 0, note(0, 0)), msg(0, 0, 0, note(0, 0, 0, 0))}, 2)
	used := []api.Budget{{}, {Drop: 1}, {Dup: 1}, {Time: 1}, {Crash: 1}, {Crash: 10}, {Drop: 1, Crash: 1}}
	seen := map[string]string{}
	for _, a := range actors {
		for _, m := range mails {
			for _, u := range used {
				w := api.World{Actors: a, Mail: m, Used: u}
				s := Text(w)
				if _, ok := seen[s]; ok {
					t.Fatalf("P9.3: two worlds are both written %q:\n%s\n%s", s, told(w), seen[s])
				}
				seen[s] = told(w)
			}
		}
	}
	if want := len(actors) * len(mails) * len(used); len(seen) != want || want < 10000 {
		t.Errorf("P9.3: there are %d texts of %d worlds", len(seen), want)
	}
}

// room is a list with spare room, in which a careless call could write.
func room[T any](l []T) []T { return append(make([]T, 0, len(l)+5), l...) }

func roomyProgram() api.Program {
	p := program()
	p.Handlers, p.Actors, p.Boot = room(p.Handlers), room(p.Actors), room(p.Boot)
	for i := range p.Handlers {
		p.Handlers[i].Code = room(p.Handlers[i].Code)
	}
	for i := range p.Actors {
		p.Actors[i].Regs = room(p.Actors[i].Regs)
	}
	p.Boot = roomyNotes(p.Boot)
	return p
}

func roomyNotes(l []api.Note) []api.Note {
	l = room(l)
	for i := range l {
		l[i].Args = room(l[i].Args)
	}
	return l
}

func roomyWorld() api.World {
	w := good()
	w.Actors, w.Mail = room(w.Actors), room(w.Mail)
	for i := range w.Actors {
		w.Actors[i].Regs = room(w.Actors[i].Regs)
	}
	for i := range w.Mail {
		w.Mail[i].Note.Args = room(w.Mail[i].Note.Args)
	}
	return w
}

// whole writes what was handed in with its spare room.
func whole(p api.Program, w api.World, notes []api.Note) string {
	var out []any
	note := func(n api.Note) { out = append(out, n.To, n.Handler, len(n.Args), n.Args[:cap(n.Args)]) }
	for _, h := range p.Handlers[:cap(p.Handlers)] {
		out = append(out, h.Args, len(h.Code), h.Code[:cap(h.Code)])
	}
	for _, a := range p.Actors[:cap(p.Actors)] {
		out = append(out, len(a.Regs), a.Regs[:cap(a.Regs)], a.Cap, a.Timer, a.Armed)
	}
	for _, l := range w.Actors[:cap(w.Actors)] {
		out = append(out, len(l.Regs), l.Regs[:cap(l.Regs)], l.Armed, l.Down, l.Sent, l.Over)
	}
	for _, m := range w.Mail[:cap(w.Mail)] {
		out = append(out, m.ID)
		note(m.Note)
	}
	for _, n := range slices.Concat(p.Boot[:cap(p.Boot)], notes[:cap(notes)]) {
		note(n)
	}
	return fmt.Sprint(append(out, w.Used, p.Fuel)...)
}

// answer is a call that answers a world.
type answer struct {
	what string
	call func(p api.Program, w api.World, notes []api.Note) api.World
}

func answers() []answer {
	all := []answer{
		{"Start", func(p api.Program, w api.World, notes []api.Note) api.World { out, _ := Start(p); return out }},
		{"Start without notes", func(p api.Program, w api.World, notes []api.Note) api.World {
			p.Boot = p.Boot[:0]
			out, _ := Start(p)
			return out
		}},
		{"Copy", func(p api.Program, w api.World, notes []api.Note) api.World { return Copy(w) }},
		{"Copy of none", func(p api.Program, w api.World, notes []api.Note) api.World {
			return Copy(api.World{Actors: w.Actors[:0], Mail: w.Mail[:0]})
		}},
		{"Send of none", func(p api.Program, w api.World, notes []api.Note) api.World { return Send(p, w, 0, notes[:0]) }},
		{"Send to full mailboxes", func(p api.Program, w api.World, notes []api.Note) api.World {
			p.Actors = make([]api.Actor, 3)
			return Send(p, w, -1, notes)
		}},
		{"Send with empty mail", func(p api.Program, w api.World, notes []api.Note) api.World {
			w.Mail = w.Mail[:0]
			return Send(p, w, 0, notes)
		}},
	}
	for from := -2; from <= 3; from++ {
		all = append(all, answer{fmt.Sprintf("Send of %d", from), func(p api.Program, w api.World, notes []api.Note) api.World { return Send(p, w, from, notes) }})
	}
	return all
}

func someNotes() []api.Note {
	return roomyNotes([]api.Note{note(0, 3, 1, 2, 3, 4), note(9, 0), note(1, 1, 5, 6), note(2, 2), note(0, 2), note(1, 1, 7, 8)})
}

// spoilNotes changes all of a list, and writes behind its end and that of its arguments.
func spoilNotes(l []api.Note) {
	for i := range l {
		spoilNumbers(l[i].Args)
		l[i] = note(77, 77, 77)
	}
	_ = append(l, note(78, 78), note(79, 79))
}

func spoilNumbers(l []int) {
	for i := range l {
		l[i] += 1000
	}
	_ = append(l, 1001, 1002, 1003)
}

func spoilWorld(w api.World) {
	for i := range w.Actors {
		spoilNumbers(w.Actors[i].Regs)
		w.Actors[i] = api.Local{Armed: !w.Actors[i].Armed, Down: 77, Sent: 77, Over: 77}
	}
	for i := range w.Mail {
		spoilNumbers(w.Mail[i].Note.Args)
		w.Mail[i] = msg(77, 77, 77, note(77, 77))
	}
	_ = append(w.Actors, api.Local{Down: 78}, api.Local{Down: 79})
	_ = append(w.Mail, msg(78, 78, 78, note(78, 78)), msg(79, 79, 79, note(79, 79)))
}

func spoilProgram(p api.Program) {
	for i := range p.Actors {
		spoilNumbers(p.Actors[i].Regs)
		p.Actors[i] = api.Actor{Cap: 77}
	}
	for i := range p.Handlers {
		p.Handlers[i] = api.Handler{Args: 77}
	}
	spoilNotes(p.Boot)
}

func TestNothingHandedInIsChanged(t *testing.T) {
	p, w, notes := roomyProgram(), roomyWorld(), someNotes()
	was := whole(p, w, notes)
	same := func(what string) {
		t.Helper()
		if whole(p, w, notes) != was {
			t.Fatalf("P9.3: %s changed what it was given", what)
		}
	}
	for _, a := range answers() {
		out := a.call(p, w, notes)
		same(a.what)
		spoilWorld(out)
		same("a change of what was answered by " + a.what)
	}
	Check(p, w)
	same("Check")
	Same(w, Copy(w))
	Same(w, w)
	same("Same")
	Text(w)
	same("Text")
	p.Fuel = 0
	was = whole(p, w, notes)
	Start(p)
	Check(p, w)
	same("Start that is refused")
}

func TestNothingHandedInIsKept(t *testing.T) {
	for _, a := range answers() {
		p, w, notes := roomyProgram(), roomyWorld(), someNotes()
		out := a.call(p, w, notes)
		was := told(out)
		spoilProgram(p)
		spoilWorld(w)
		spoilNotes(notes)
		if told(out) != was {
			t.Errorf("P9.3: what %s answered changed with what it was given:\n was %s\n now %s", a.what, was, told(out))
		}
		p, w, notes = roomyProgram(), roomyWorld(), someNotes()
		if got := a.call(p, w, notes); told(got) != was {
			t.Errorf("P9.3: %s answers now this, now that:\n was %s\n now %s", a.what, was, told(got))
		}
	}
}

// TestNoTwoListsOfAnAnswerShare hands in lists that all stand in one memory.
func TestNoTwoListsOfAnAnswerShare(t *testing.T) {
	for _, a := range answers() {
		p, w, notes := roomyProgram(), roomyWorld(), someNotes()
		one := room([]int{5, 6, 7, 8})
		for i := range p.Actors {
			p.Actors[i].Regs, w.Actors[i].Regs = one[:1+i], one[:1+i]
		}
		for _, l := range [][]api.Note{p.Boot, notes} {
			for i := range l {
				l[i].Args = one[:len(l[i].Args)]
			}
		}
		for i := range w.Mail {
			w.Mail[i].Note.Args = one[:len(w.Mail[i].Note.Args)]
		}
		out := a.call(p, w, notes)
		var lists [][]int
		for _, l := range out.Actors {
			lists = append(lists, l.Regs)
		}
		for _, m := range out.Mail {
			lists = append(lists, m.Note.Args)
		}
		wantApart(t, a.what, append(lists, one))
	}
}

// wantApart marks each list through and behind its end, and looks whether the marks of all are still there.
func wantApart(t *testing.T, what string, lists [][]int) {
	t.Helper()
	for i, l := range lists {
		for k := range l {
			l[k] = 100 + i
		}
	}
	for _, l := range lists {
		_ = append(l, 99, 99)
	}
	for i, l := range lists {
		for _, n := range l {
			if n != 100+i {
				t.Errorf("P9.3: two lists that %s answered share their memory", what)
			}
		}
	}
}

// A walk from the start on: what Send makes of a world that may be is one that may be, and is in order.
func TestSendKeepsCheck(t *testing.T) {
	p := program()
	w := startOf(t, p)
	for round := range 40 {
		from := round % 3
		notes := someNotes()[:round%5]
		w.Actors[from].Sent += len(notes)
		w = Send(p, w, from, notes)
		if !Check(p, w) || !mail.Sorted(w.Mail) {
			t.Fatalf("P9.2: behind %d Sends, the world may not be:\n%s", round+1, told(w))
		}
	}
	for who, a := range p.Actors {
		if n := mail.To(w.Mail, who); n != a.Cap {
			t.Errorf("P9.1: %d messages go to actor %d, with a Cap of %d", n, who, a.Cap)
		}
	}
}
