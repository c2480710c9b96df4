package touch

import (
	"cmp"
	"fmt"
	"math"
	"slices"
	"strings"
	"testing"

	"gavotte/api"
	"gavotte/asm"
	"gavotte/event"
	"gavotte/ident"
	"gavotte/step"
	"gavotte/world"
)

// The handlers of the program that the tests begin with.
const (
	quiet  = 0 // does nothing
	stores = 1 // stores its argument
	tells  = 2 // sends its argument to actor 1, stores 1 in register 1
	counts = 3 // counts in register 0, arms
	free   = 4 // quiet, until a test says otherwise
)

func code(s string) []api.Instr {
	if s == "" {
		return nil
	}
	out, e := asm.Parse(strings.ReplaceAll(s, "; ", "\n") + "\n")
	if e != api.OK {
		panic(s)
	}
	return out
}

func handler(args int, s string) api.Handler { return api.Handler{Args: args, Code: code(s)} }

func id(from, n, last int) api.ID { return api.ID{From: from, N: n, Copy: last} }

func note(to, handler int, args ...int) api.Note {
	return api.Note{To: to, Handler: handler, Args: args}
}

func msg(from, n, last int, m api.Note) api.Message {
	return api.Message{ID: id(from, n, last), Note: m}
}

func budget(drop, dup, time, crash int) api.Budget {
	return api.Budget{Drop: drop, Dup: dup, Time: time, Crash: crash}
}

// of and ofID are events of a message, by one of an actor.
func of(kind, from, n, last int) api.Event { return ofID(kind, id(from, n, last)) }

func ofID(kind int, which api.ID) api.Event { return api.Event{Kind: kind, ID: which} }

func by(kind, who int) api.Event { return api.Event{Kind: kind, Who: who} }

// program is five actors; made anew each time, as tests change it.
func program() api.Program {
	return api.Program{
		Handlers: []api.Handler{
			handler(0, ""),
			handler(1, "arg 0; store 0"),
			handler(1, "arg 0; push 1; send 1; push 1; store 1"),
			handler(0, "load 0; push 1; add; store 0; arm"),
			handler(0, ""),
		},
		Actors: []api.Actor{
			{Regs: []int{4, 5}, Cap: 3, Timer: counts, Armed: true},
			{Regs: []int{6}, Cap: 16, Timer: -1},
			{Regs: []int{0}, Cap: 2, Timer: quiet},
			{Regs: []int{7}, Cap: 2, Timer: quiet, Armed: true},
			{Regs: []int{8}, Cap: 0, Timer: counts, Armed: true},
		},
		Boot: []api.Note{note(1, stores, 10), note(2, quiet), note(0, tells, 1)},
		Fuel: 64,
	}
}

// good is a world of that program: actor 2 is calm, 3 is down, all others run; a message goes to each of them, to 3 there go two, so that it has no room left.
func good() api.World {
	return api.World{
		Actors: []api.Local{
			{Regs: []int{7, 0}, Armed: true, Sent: 5, Over: 1},
			{Regs: []int{-6}, Sent: 1},
			{Regs: []int{2}, Over: 2},
			{Regs: []int{math.MinInt}, Armed: true, Down: api.Divided, Sent: 3},
			{Regs: []int{3}, Armed: true},
		},
		Mail: []api.Message{
			msg(-1, 1, 0, note(2, counts)),
			msg(-1, 2, 0, note(3, stores, 9)),
			msg(0, 0, 0, note(1, stores, 8)),
			msg(0, 4, 2, note(0, tells, 20)),
			msg(1, 0, 0, note(4, quiet)),
			msg(3, 2, 0, note(3, stores, -1)),
		},
		Used: budget(1, 2, 3, 4),
	}
}

// lasting leaves one of each in the good world.
func lasting() api.Budget { return budget(2, 3, 4, 5) }

// toActor is the ID of a message of the good world that goes there.
func toActor(who int) api.ID {
	return []api.ID{id(0, 4, 2), id(0, 0, 0), id(-1, 1, 0), id(-1, 2, 0), id(1, 0, 0)}[who]
}

// told writes a world whole, not by the program's words; a nil list and an empty one are the same.
func told(w api.World) string {
	var out []string
	for i, l := range w.Actors {
		out = append(out, fmt.Sprint("actor ", i, " ", l.Regs, l.Armed, l.Down, l.Sent, l.Over))
	}
	for _, m := range w.Mail {
		out = append(out, fmt.Sprint("message ", m.ID, " ", m.Note))
	}
	return strings.Join(append(out, fmt.Sprint("used ", w.Used)), "\n")
}

// gone takes a message out of a world that is expected.
func gone(w *api.World, which api.ID) {
	w.Mail = slices.DeleteFunc(w.Mail, func(m api.Message) bool { return m.ID == which })
}

// come puts messages into a world that is expected.
func come(w *api.World, l ...api.Message) {
	w.Mail = append(w.Mail, l...)
	slices.SortFunc(w.Mail, func(a, b api.Message) int {
		return cmp.Or(cmp.Compare(a.ID.From, b.ID.From), cmp.Compare(a.ID.N, b.ID.N), cmp.Compare(a.ID.Copy, b.ID.Copy))
	})
}

func wantWho(t *testing.T, what string, p api.Program, w api.World, e api.Event, want ...int) {
	t.Helper()
	if got := Who(p, w, e); !slices.Equal(got, want) {
		t.Errorf("P12.1: Who of %s %v is %v, not %v", what, e, got, want)
	}
}

// wantFree asks both ways.
func wantFree(t *testing.T, what string, p api.Program, w api.World, a, b api.Event, want bool) {
	t.Helper()
	if got := Free(p, w, a, b); got != want {
		t.Errorf("P12.1: Free of %s, %v and %v, is %v", what, a, b, got)
	}
	if got := Free(p, w, b, a); got != want {
		t.Errorf("P12.3: Free of %s, %v and %v, is %v", what, b, a, got)
	}
}

func TestWhoOfEachKind(t *testing.T) {
	p, w := program(), good()
	for kind := api.Deliver; kind <= api.Dup; kind++ {
		wantWho(t, "one to 1", p, w, of(kind, 0, 0, 0), 1)
		wantWho(t, "one to 2", p, w, of(kind, -1, 1, 0), 2)
		wantWho(t, "one to 4", p, w, of(kind, 1, 0, 0), 4)
		wantWho(t, "one to 3, which is down", p, w, of(kind, -1, 2, 0), 3)
		wantWho(t, "one of 3 to itself, which is down", p, w, of(kind, 3, 2, 0), 3)
	}
	wantWho(t, "one to 0 that tells 1", p, w, of(api.Deliver, 0, 4, 2), 0, 1)
	wantWho(t, "the loss of one to 0", p, w, of(api.Drop, 0, 4, 2), 0)
	wantWho(t, "the doubling of one to 0", p, w, of(api.Dup, 0, 4, 2), 0)
	for who := range w.Actors {
		wantWho(t, "a timer that sends nothing", p, w, by(api.Time, who), who)
		wantWho(t, "a crash", p, w, by(api.Crash, who), who)
	}
}

// sending is code, and whom it sends to when register 0 of an actor that runs is 3.
type sending struct {
	code string
	to   func(self int) []int
}

// always is the same whoever sends.
func always(to ...int) func(int) []int { return func(int) []int { return to } }

func sendings() []sending {
	const falls = "push 2; send 0; push 1; send 0; "
	return []sending{
		{"", always()},
		{"push 5; store 0; arm", always()},
		{"self; send 0", func(self int) []int { return []int{self} }},
		{"self; send 0; self; send 0", func(self int) []int { return []int{self, self} }},
		{"push 0; send 0", always(0)},
		{"push 3; send 0", always(3)},
		{"push 4; send 0", always(4)},
		{"push 1; send 0; push 1; send 0", always(1, 1)},
		{"push 3; push 3; send 1; push 4; push 3; send 1; push 3; send 0", always(3, 3, 3)},
		{"push 0; send 0; push 1; send 0; push 2; send 0", always(0, 1, 2)},
		{"push 4; send 0; push 1; send 0; push 3; send 0", always(4, 1, 3)},
		{"push 3; send 0; push 0; send 0; push 3; send 0; push 0; send 0", always(3, 0)},
		{"push 4; send 0; push 3; send 0; push 2; send 0; push 1; send 0; push 0; send 0", always(4, 3, 2, 1, 0)},
		{"push 1; send 0; self; send 0; push 0; send 0; self; send 0", func(self int) []int { return []int{1, self, 0} }},
		{"load 0; send 0", always(3)},
		{"self; push 1; add; push 5; mod; copy; send 0; send 0", func(self int) []int { return []int{(self + 1) % 5} }},
		{"push 2; send 0; end; push 0; send 0", always(2)},
		{"push 2; send 0; jump 5; push 0; send 0", always(2)},
		{falls + "push 1; push 0; div; pop", always()},
		{falls + "push 5; send 0", always()},
		{falls + "push -1; send 0", always()},
		{falls + "jump 4", always()},
	}
}

// together is an actor and all that it sends to, rising.
func together(who int, sent []int) []int {
	var out []int
	for n := range 8 {
		if n == who || slices.Contains(sent, n) {
			out = append(out, n)
		}
	}
	return out
}

// running is the good world with all running, armed and with register 0 at 3.
func running() api.World {
	w := good()
	for i := range w.Actors {
		w.Actors[i].Down, w.Actors[i].Regs[0], w.Actors[i].Armed = api.Runs, 3, i != 1
	}
	return w
}

func TestWhoOfWhatSends(t *testing.T) {
	for _, s := range sendings() {
		for who := range 5 {
			p, w := program(), running()
			p.Handlers[free] = handler(0, s.code)
			p.Actors[who].Timer, w.Actors[who].Armed = free, true
			for i := range w.Mail {
				if w.Mail[i].ID == toActor(who) {
					w.Mail[i].Note = note(who, free)
				}
			}
			want := together(who, s.to(who))
			wantWho(t, "a delivery of "+s.code, p, w, ofID(api.Deliver, toActor(who)), want...)
			wantWho(t, "a timer of "+s.code, p, w, by(api.Time, who), want...)
			for _, e := range []api.Event{ofID(api.Drop, toActor(who)), ofID(api.Dup, toActor(who)), by(api.Crash, who)} {
				wantWho(t, "what does not run "+s.code, p, w, e, who)
			}
		}
	}
}

// The handler is run as it would be there: by the message's arguments, and the actor's registers.
func TestWhoByArgumentsAndRegisters(t *testing.T) {
	p, w := program(), good()
	p.Handlers[free] = handler(3, "arg 2; send 0; load 0; send 0; arg 0; send 0")
	for to := range 5 {
		for reg := range 5 {
			for arg := range 5 {
				w.Mail[2].Note = note(1, free, to, 9, arg)
				w.Actors[1].Regs[0] = reg
				wantWho(t, "one that tells whom it is told", p, w, of(api.Deliver, 0, 0, 0), together(1, []int{to, reg, arg})...)
			}
		}
	}
	w.Mail[2].Note.Args[2] = 5
	wantWho(t, "one that tells nobody, so that it falls", p, w, of(api.Deliver, 0, 0, 0), 1)
}

// Of eight actors, each tells all others.
func TestWhoOfEight(t *testing.T) {
	all := "push 7; send 0; push 6; send 0; push 5; send 0; push 4; send 0; push 3; send 0; push 2; send 0; push 1; send 0; push 0; send 0"
	p := api.Program{Handlers: []api.Handler{handler(0, all+"; "+all)}, Fuel: 64}
	for who := range 8 {
		p.Actors = append(p.Actors, api.Actor{Cap: 1, Timer: 0, Armed: true})
		p.Boot = append(p.Boot, note(who, 0))
	}
	w, _ := world.Start(p)
	for who := range 8 {
		wantWho(t, "one of eight", p, w, of(api.Deliver, -1, who, 0), 0, 1, 2, 3, 4, 5, 6, 7)
		wantWho(t, "one of eight", p, w, by(api.Time, who), 0, 1, 2, 3, 4, 5, 6, 7)
		wantWho(t, "one of eight", p, w, by(api.Crash, who), who)
	}
}

// With the last fuel it sends, with one less it falls and sends nothing.
func TestWhoWithTheLastFuel(t *testing.T) {
	p := program()
	p.Fuel = 5
	wantWho(t, "one with just enough fuel", p, good(), of(api.Deliver, 0, 4, 2), 0, 1)
	p.Fuel = 4
	wantWho(t, "one with a step too few", p, good(), of(api.Deliver, 0, 4, 2), 0)
}

// Those who have no room are touched, as that is counted; those who are down, too.
func TestWhoWithoutRoom(t *testing.T) {
	p, w := program(), good()
	p.Handlers[tells] = handler(1, "push 4; send 0; push 3; send 0")
	wantWho(t, "one that tells one that has no room and one that is down", p, w, of(api.Deliver, 0, 4, 2), 0, 3, 4)
	for i := range p.Actors {
		p.Actors[i].Cap = 0
	}
	wantWho(t, "one that tells others, where nobody has room,", p, w, of(api.Deliver, 0, 4, 2), 0, 3, 4)
	wantWho(t, "a doubling that has no room", p, w, of(api.Dup, 0, 4, 2), 0)
}

// One that is down sends nothing, whatever it would send, but it is there.
func TestWhoOfOneThatIsDown(t *testing.T) {
	for down := api.Crashed; down <= api.Lost; down++ {
		p, w := program(), good()
		p.Handlers[free] = handler(0, "push 1; send 0")
		p.Actors[0].Timer = free
		wantWho(t, "one that runs", p, w, of(api.Deliver, 0, 4, 2), 0, 1)
		wantWho(t, "a timer of one that runs", p, w, by(api.Time, 0), 0, 1)
		w.Actors[0].Down = down
		for kind := api.Deliver; kind <= api.Dup; kind++ {
			wantWho(t, "one to one that is down", p, w, of(kind, 0, 4, 2), 0)
		}
		wantWho(t, "a timer of one that is down", p, w, by(api.Time, 0), 0)
		wantWho(t, "a crash of one that is down", p, w, by(api.Crash, 0), 0)
	}
}

// A timer that is calm, and one that is none, sends nothing, but its actor is there.
func TestWhoOfCalmTimers(t *testing.T) {
	p, w := program(), good()
	p.Handlers[free] = handler(0, "push 1; send 0")
	p.Actors[2].Timer = free
	wantWho(t, "a timer that is calm", p, w, by(api.Time, 2), 2)
	wantWho(t, "an actor without a timer", p, w, by(api.Time, 1), 1)
	w.Actors[2].Armed = true
	wantWho(t, "a timer that is armed", p, w, by(api.Time, 2), 1, 2)
}

// However much was used: no budget would let any fault, but none is asked.
func TestWhoAsksNoBudget(t *testing.T) {
	p := program()
	p.Handlers[counts] = handler(0, "push 2; send 0")
	for _, used := range []api.Budget{budget(0, 2, 0, 0), budget(9, 9, 999, 9), budget(1000, 1000, 1000, 1000), budget(1001, 1001, 1001, 1001), budget(math.MaxInt, math.MaxInt, math.MaxInt, math.MaxInt)} {
		w := good()
		w.Used = used
		wantWho(t, "a delivery, with any Used,", p, w, of(api.Deliver, 0, 4, 2), 0, 1)
		wantWho(t, "a loss, with any Used,", p, w, of(api.Drop, 0, 4, 2), 0)
		wantWho(t, "a doubling, with any Used,", p, w, of(api.Dup, 0, 4, 2), 0)
		wantWho(t, "a timer, with any Used,", p, w, by(api.Time, 4), 2, 4)
		wantWho(t, "a crash, with any Used,", p, w, by(api.Crash, 4), 4)
		wantFree(t, "two, with any Used,", p, w, by(api.Time, 4), of(api.Deliver, 0, 4, 2), true)
		wantFree(t, "two, with any Used,", p, w, of(api.Dup, 0, 0, 0), of(api.Drop, 0, 4, 2), true)
	}
}

func TestWhoOfWhatIsNotThere(t *testing.T) {
	p, w := program(), good()
	for _, which := range []api.ID{id(-1, 0, 0), id(-1, 1, 1), id(-1, 3, 0), id(0, 0, 1), id(0, 3, 2), id(0, 4, 0), id(0, 4, 1), id(0, 4, 3), id(0, 5, 2), id(1, 4, 2), id(1, 1, 0), id(2, 0, 0), id(5, 0, 0), id(-2, 1, 0), id(0, -1, 0), id(math.MinInt, math.MinInt, math.MinInt), id(math.MaxInt, math.MaxInt, math.MaxInt)} {
		for kind := api.Deliver; kind <= api.Dup; kind++ {
			wantWho(t, "a message that is not there", p, w, ofID(kind, which))
		}
	}
	wantWho(t, "the ID that is zero", p, w, api.Event{Kind: api.Deliver}, 1)
	gone(&w, api.ID{})
	for kind := api.Deliver; kind <= api.Dup; kind++ {
		wantWho(t, "the ID that is zero, and not there", p, w, api.Event{Kind: kind})
	}
	for _, who := range []int{-1, -2, 5, 6, 8, 1 << 32, math.MinInt, math.MaxInt} {
		wantWho(t, "a timer of nobody", p, w, by(api.Time, who))
		wantWho(t, "a crash of nobody", p, w, by(api.Crash, who))
	}
	w.Mail = nil
	wantWho(t, "a message, where there is none", p, w, of(api.Deliver, 0, 4, 2))
	wantWho(t, "an actor, where there are no messages", p, w, by(api.Crash, 4), 4)
}

func TestWhoOfNoKind(t *testing.T) {
	for _, kind := range []int{0, 6, 7, -1, -5, 257, 1<<32 + 1, math.MinInt, math.MaxInt} {
		for who := -1; who <= 5; who++ {
			wantWho(t, "a kind that is none", program(), good(), by(kind, who))
			wantFree(t, "a kind that is none and a crash", program(), good(), by(kind, who), by(api.Crash, 4), false)
		}
		for _, m := range good().Mail {
			wantWho(t, "a kind that is none", program(), good(), ofID(kind, m.ID))
			wantFree(t, "a kind that is none and a crash", program(), good(), ofID(kind, m.ID), by(api.Crash, 4), false)
		}
	}
}

// An event of a message with a Who, and one of an actor with an ID, may not be done, so that it sends nothing; but what it would happen to is there.
func TestWhoOfEventsWithoutNames(t *testing.T) {
	p, w := program(), good()
	p.Handlers[counts] = handler(0, "push 2; send 0")
	wantWho(t, "a timer", p, w, by(api.Time, 4), 2, 4)
	for _, who := range []int{-1, 1, 4, 5, math.MinInt, math.MaxInt} {
		for kind := api.Deliver; kind <= api.Dup; kind++ {
			wantWho(t, "one of a message, with a Who", p, w, api.Event{Kind: kind, ID: id(0, 4, 2), Who: who}, 0)
			wantWho(t, "one of no message, with a Who", p, w, api.Event{Kind: kind, ID: id(0, 4, 1), Who: who})
		}
	}
	for _, which := range []api.ID{id(0, 4, 2), id(-1, 1, 0), id(9, 9, 9), id(0, 0, 1)} {
		for kind := api.Time; kind <= api.Crash; kind++ {
			wantWho(t, "one of an actor, with an ID", p, w, api.Event{Kind: kind, ID: which, Who: 4}, 4)
			wantWho(t, "one of nobody, with an ID", p, w, api.Event{Kind: kind, ID: which, Who: 5})
		}
	}
}

// candidates are events of all kinds, of all messages of a world and some more, and of all actors and some more.
func candidates(w api.World) []api.Event {
	var out []api.Event
	for kind := -1; kind <= 6; kind++ {
		for who := -1; who <= len(w.Actors); who++ {
			out = append(out, by(kind, who))
		}
		for _, m := range append(slices.Clone(w.Mail), msg(-1, 15, 0, note(0, 0)), msg(0, 99, 0, note(0, 0))) {
			out = append(out, ofID(kind, m.ID), api.Event{Kind: kind, ID: m.ID, Who: 1})
		}
	}
	return append(out, by(api.Time, math.MinInt), by(api.Crash, math.MaxInt), api.Event{Kind: math.MaxInt}, api.Event{Kind: math.MinInt})
}

// brokenWorlds may not be, each by one thing.
func brokenWorlds() map[string]api.World {
	all := map[string]api.World{}
	add := func(what string, do func(w *api.World)) {
		w := good()
		do(&w)
		all[what] = w
	}
	add("no actors", func(w *api.World) { w.Actors = nil })
	add("an actor more", func(w *api.World) { w.Actors = append(w.Actors, api.Local{}) })
	add("an actor less", func(w *api.World) { w.Actors = w.Actors[:4] })
	add("a register more", func(w *api.World) { w.Actors[2].Regs = []int{1, 2} })
	add("a register less", func(w *api.World) { w.Actors[2].Regs = nil })
	add("a Down of 5", func(w *api.World) { w.Actors[3].Down = 5 })
	add("a Down below 0", func(w *api.World) { w.Actors[3].Down = -1 })
	add("an Over below 0", func(w *api.World) { w.Actors[3].Over = -1 })
	add("a Sent above the most", func(w *api.World) { w.Actors[3].Sent = 1 << 41 })
	add("an Over above the most", func(w *api.World) { w.Actors[3].Over = 1 << 41 })
	add("armed without a timer", func(w *api.World) { w.Actors[1].Armed = true })
	add("two messages turned", func(w *api.World) { w.Mail[4], w.Mail[5] = w.Mail[5], w.Mail[4] })
	add("a message twice", func(w *api.World) { w.Mail = append(w.Mail, w.Mail[5]) })
	add("a message to nobody", func(w *api.World) { w.Mail[5].Note.To = 5 })
	add("a message to one below 0", func(w *api.World) { w.Mail[5].Note.To = -1 })
	add("a message with an argument less", func(w *api.World) { w.Mail[5].Note.Args = nil })
	add("a message of no handler", func(w *api.World) { w.Mail[5].Note.Handler = 5 })
	add("a message of nobody", func(w *api.World) { w.Mail[5].ID.From = 5 })
	add("a Copy that was not made", func(w *api.World) { w.Mail[5].ID.Copy = 3 })
	add("a message that was not sent", func(w *api.World) { w.Mail[5].ID.N = 3 })
	for place := range 4 {
		add(fmt.Sprint("less than none used at place ", place), func(w *api.World) {
			gone(w, id(0, 4, 2))
			*[]*int{&w.Used.Drop, &w.Used.Dup, &w.Used.Time, &w.Used.Crash}[place] = -1
		})
	}
	return all
}

// brokenPrograms may not be, each by one thing; the good world would fit them.
func brokenPrograms() map[string]api.Program {
	all := map[string]api.Program{}
	add := func(what string, do func(p *api.Program)) {
		p := program()
		do(&p)
		all[what] = p
	}
	add("no fuel", func(p *api.Program) { p.Fuel = 0 })
	add("too much fuel", func(p *api.Program) { p.Fuel = 257 })
	add("seventeen notes", func(p *api.Program) { p.Boot = make([]api.Note, 17) })
	add("a note to nobody", func(p *api.Program) { p.Boot[1].To = 5 })
	add("an op that is none", func(p *api.Program) { p.Handlers[free].Code = []api.Instr{{Op: 26}} })
	add("a jump out of the code", func(p *api.Program) { p.Handlers[free] = handler(0, "jump 2") })
	add("a register that is none", func(p *api.Program) { p.Handlers[free] = handler(0, "load 8") })
	add("too few on the stack", func(p *api.Program) { p.Handlers[free] = handler(0, "pop") })
	add("two depths", func(p *api.Program) { p.Handlers[free] = handler(0, "push 1; jump 0") })
	add("no actors", func(p *api.Program) { p.Actors = nil })
	add("an actor less", func(p *api.Program) { p.Actors = p.Actors[:4] })
	return all
}

// wantNobody asks all candidates, alone and each beside some.
func wantNobody(t *testing.T, what string, p api.Program, w api.World) {
	t.Helper()
	for _, e := range candidates(good()) {
		wantWho(t, what, p, w, e)
		for _, other := range []api.Event{by(api.Crash, 0), by(api.Time, 4), of(api.Deliver, 0, 0, 0), of(api.Drop, -1, 1, 0)} {
			wantFree(t, what, p, w, e, other, false)
		}
	}
}

func TestNobodyWhereNothingMayBe(t *testing.T) {
	for what, w := range brokenWorlds() {
		wantNobody(t, what, program(), w)
	}
	for what, p := range brokenPrograms() {
		wantNobody(t, what, p, good())
	}
	wantNobody(t, "nothing at all", api.Program{}, api.World{})
	wantNobody(t, "no world", program(), api.World{})
	wantNobody(t, "no program", api.Program{}, good())
}

// The greatest counts that a world may have are taken; one more, and nobody is touched.
func TestWhoAtTheGreatestCounts(t *testing.T) {
	const most = 1<<41 - 1
	p, w := program(), good()
	w.Actors[0].Sent, w.Actors[1].Over = most, most
	wantWho(t, "one whose actor sent the most", p, w, of(api.Deliver, 0, 4, 2), 0, 1)
	wantFree(t, "two, where one sent the most", p, w, of(api.Deliver, 0, 4, 2), by(api.Crash, 4), true)
	w.Actors[1].Over++
	wantWho(t, "one, with one more", p, w, of(api.Deliver, 0, 4, 2))
	wantFree(t, "two, with one more", p, w, of(api.Deliver, 0, 4, 2), by(api.Crash, 4), false)
}

func wantMeets(t *testing.T, a, b []int, want bool) {
	t.Helper()
	if got := Meets(a, b); got != want {
		t.Errorf("P12.1: Meets of %v and %v is %v", a, b, got)
	}
	if got := Meets(b, a); got != want {
		t.Errorf("P12.1: Meets of %v and %v is %v", b, a, got)
	}
}

func TestMeets(t *testing.T) {
	none := []int{}
	wantMeets(t, nil, nil, false)
	wantMeets(t, nil, none, false)
	wantMeets(t, none, none, false)
	wantMeets(t, nil, []int{0}, false)
	wantMeets(t, none, []int{0}, false)
	wantMeets(t, none, []int{1, 2, 3}, false)
	wantMeets(t, []int{0}, []int{0}, true)
	wantMeets(t, []int{0}, []int{1}, false)
	wantMeets(t, []int{1, 3, 5}, []int{0, 2, 4, 6}, false)
	wantMeets(t, []int{1, 2, 3}, []int{4, 5, 6}, false)
	wantMeets(t, []int{1, 3, 5}, []int{5}, true)
	wantMeets(t, []int{1, 3, 5}, []int{1}, true)
	wantMeets(t, []int{1, 3, 5}, []int{0, 3, 6}, true)
	wantMeets(t, []int{1, 3, 5}, []int{1, 3, 5}, true)
	wantMeets(t, []int{1, 3, 5}, []int{3, 4, 5}, true)
}

// Lists that do not rise, and numbers that are no actors, are asked all the same.
func TestMeetsOfAnyLists(t *testing.T) {
	wantMeets(t, []int{5, 1}, []int{1, 9}, true)
	wantMeets(t, []int{3, 1}, []int{1}, true)
	wantMeets(t, []int{3, 1}, []int{3}, true)
	wantMeets(t, []int{9, 7, 8}, []int{1, 6, 2, 9}, true)
	wantMeets(t, []int{9, 7, 8}, []int{1, 6, 2}, false)
	wantMeets(t, []int{4, 4, 4}, []int{2, 2, 2}, false)
	wantMeets(t, []int{4, 4, 4}, []int{2, 4, 2}, true)
	wantMeets(t, []int{math.MinInt, 0}, []int{math.MaxInt, -1}, false)
	wantMeets(t, []int{math.MaxInt, math.MinInt}, []int{0, math.MinInt}, true)
	wantMeets(t, []int{math.MinInt, math.MaxInt}, []int{math.MaxInt, 1}, true)
	wantMeets(t, []int{1}, []int{-1}, false)
	wantMeets(t, []int{1}, []int{1 << 32, 1<<32 + 1, 257, 65537}, false)
}

// shortLists are all lists of up to three of four numbers.
func shortLists() [][]int {
	out := [][]int{nil}
	for at := 0; len(out[at]) < 3; at++ {
		for n := -1; n <= 2; n++ {
			out = append(out, append(slices.Clone(out[at]), n))
		}
	}
	return out
}

func TestMeetsOfAllShortLists(t *testing.T) {
	all := shortLists()
	for _, a := range all {
		for _, b := range all {
			wantMeets(t, a, b, slices.ContainsFunc(a, func(n int) bool { return slices.Contains(b, n) }))
		}
	}
	if len(all) != 85 {
		t.Errorf("%d lists are not all", len(all))
	}
}

// Two long lists in no order, that have nothing, and but one number, in common.
func TestMeetsOfLongLists(t *testing.T) {
	const many = 300000
	var even, odd []int
	for i := range many {
		even = append(even, 2*(i*7919%many))
		odd = append(odd, 2*(i*104729%many)+1)
	}
	wantMeets(t, even, odd, false)
	wantMeets(t, append(slices.Clone(even), odd[many/2]), odd, true)
}

// Two deliveries to two actors that send nothing: the chapter's example.
func TestFreeOfTwoThatSendNothing(t *testing.T) {
	p := api.Program{Handlers: []api.Handler{{}}, Actors: []api.Actor{{Cap: 1, Timer: -1}, {Cap: 1, Timer: -1}}, Boot: []api.Note{note(0, 0), note(1, 0)}, Fuel: 1}
	w, _ := world.Start(p)
	wantFree(t, "two deliveries", p, w, of(api.Deliver, -1, 0, 0), of(api.Deliver, -1, 1, 0), true)
}

func TestFreeOfAnEventAndItself(t *testing.T) {
	for _, e := range candidates(good()) {
		wantFree(t, "one and itself", program(), good(), e, e, false)
	}
}

func TestFreeOfFaults(t *testing.T) {
	p, w := program(), good()
	one := []api.Event{of(api.Drop, 0, 0, 0), of(api.Dup, 0, 0, 0), by(api.Time, 1), by(api.Crash, 1)}
	two := []api.Event{of(api.Drop, -1, 1, 0), of(api.Dup, -1, 1, 0), by(api.Time, 2), by(api.Crash, 2)}
	for i, a := range one {
		for k, b := range two {
			wantFree(t, "two faults of two actors", p, w, a, b, i != k)
		}
		for _, b := range one {
			wantFree(t, "two faults of one actor", p, w, a, b, false)
		}
	}
	wantFree(t, "two losses to one actor", p, w, of(api.Drop, -1, 2, 0), of(api.Drop, 3, 2, 0), false)
	wantFree(t, "a loss and a doubling to one actor", p, w, of(api.Drop, -1, 2, 0), of(api.Dup, 3, 2, 0), false)
	wantFree(t, "a loss and a doubling to two actors", p, w, of(api.Drop, -1, 2, 0), of(api.Dup, 0, 0, 0), true)
}

// telling is the good world with all running, where the message to each actor makes it tell one (itself, if nobody else).
func telling(whom [5]int) (api.Program, api.World) {
	p, w := program(), running()
	p.Handlers[free] = handler(1, "arg 0; send 0")
	for i := range w.Mail {
		to := w.Mail[i].Note.To
		w.Mail[i].Note = note(to, free, whom[to])
	}
	return p, w
}

func TestFreeOfDeliveries(t *testing.T) {
	deliver := func(who int) api.Event { return ofID(api.Deliver, toActor(who)) }
	for _, r := range []struct {
		what string
		whom [5]int
		a, b int
		want bool
	}{
		{"two that tell each other", [5]int{1, 0, 2, 3, 4}, 0, 1, false},
		{"two that tell each other", [5]int{0, 1, 4, 3, 2}, 2, 4, false},
		{"two, the first tells the second", [5]int{1, 1, 2, 3, 4}, 0, 1, false},
		{"two, the second tells the first", [5]int{0, 0, 2, 3, 4}, 0, 1, false},
		{"two that tell one, which is neither", [5]int{3, 3, 2, 3, 4}, 0, 1, false},
		{"two that tell one, which is neither", [5]int{0, 1, 0, 3, 0}, 2, 4, false},
		{"two that tell two others", [5]int{3, 4, 2, 3, 4}, 0, 1, true},
		{"two that tell two others, crosswise", [5]int{4, 3, 2, 3, 4}, 0, 1, true},
		{"two that tell nobody else", [5]int{0, 1, 2, 3, 4}, 0, 1, true},
		{"two that tell nobody else", [5]int{0, 1, 2, 3, 4}, 3, 4, true},
		{"two, one tells a third", [5]int{2, 1, 2, 3, 4}, 0, 1, true},
		{"two, one tells a third", [5]int{0, 1, 2, 3, 0}, 1, 4, true},
	} {
		p, w := telling(r.whom)
		wantFree(t, "deliveries to "+r.what, p, w, deliver(r.a), deliver(r.b), r.want)
	}
	p, w := telling([5]int{0, 1, 2, 3, 4})
	wantFree(t, "deliveries to one actor", p, w, of(api.Deliver, -1, 2, 0), of(api.Deliver, 3, 2, 0), false)
	w = good()
	wantFree(t, "deliveries to one actor that is down", p, w, of(api.Deliver, -1, 2, 0), of(api.Deliver, 3, 2, 0), false)
}

// Two timers use up one budget; else a timer goes by whom it tells.
func TestFreeOfTimers(t *testing.T) {
	p, w := telling([5]int{0, 1, 2, 3, 4})
	p.Handlers[counts] = handler(0, "push 1; send 0")
	for _, who := range []int{0, 2, 4} {
		p.Actors[who].Timer = counts
		wantWho(t, "a timer", p, w, by(api.Time, who), together(who, []int{1})...)
		for other := range 5 {
			apart := other != who && other != 1
			for kind := api.Deliver; kind <= api.Dup; kind++ {
				wantFree(t, "a timer and one of a message", p, w, by(api.Time, who), ofID(kind, toActor(other)), apart)
			}
			wantFree(t, "a timer and a crash", p, w, by(api.Time, who), by(api.Crash, other), apart)
			wantFree(t, "two timers", p, w, by(api.Time, who), by(api.Time, other), false)
		}
	}
}

func TestFreeOfAFaultAndADelivery(t *testing.T) {
	p, w := telling([5]int{1, 1, 2, 3, 3})
	touched := map[int][]int{0: {0, 1}, 1: {1}, 2: {2}, 3: {3}, 4: {3, 4}}
	for to, who := range touched {
		for other := range 5 {
			apart := !slices.Contains(who, other)
			for _, e := range []api.Event{ofID(api.Drop, toActor(other)), ofID(api.Dup, toActor(other)), by(api.Crash, other)} {
				wantFree(t, "a delivery and a fault", p, w, ofID(api.Deliver, toActor(to)), e, apart)
			}
		}
	}
	for kind := api.Drop; kind <= api.Dup; kind++ {
		wantFree(t, "a delivery and a fault of its own message", p, w, of(api.Deliver, 0, 0, 0), of(kind, 0, 0, 0), false)
	}
}

// Whom it goes to counts, not who sent it.
func TestFreeOfTwoMessagesOfOneSender(t *testing.T) {
	p, w := telling([5]int{0, 1, 2, 3, 4})
	for kind := api.Deliver; kind <= api.Dup; kind++ {
		wantFree(t, "two of one sender", p, w, of(api.Deliver, 0, 0, 0), of(kind, 0, 4, 2), true)
		wantFree(t, "two of one sender", p, w, of(api.Deliver, -1, 1, 0), of(kind, -1, 2, 0), true)
		wantFree(t, "one and a crash of its sender", p, w, of(kind, 1, 0, 0), by(api.Crash, 1), true)
	}
}

func TestFreeWhereOneTouchesNobody(t *testing.T) {
	p, w := program(), good()
	nobody := []api.Event{{}, {Kind: 6}, {Kind: -1, Who: 3}, by(api.Time, 5), by(api.Crash, -1), of(api.Deliver, 0, 4, 1), of(api.Drop, 9, 9, 9), of(api.Dup, -1, 0, 0), of(0, 0, 0, 0)}
	for i, a := range nobody {
		for _, b := range event.Enabled(p, lasting(), w) {
			wantFree(t, "one that touches nobody and one that may be done", p, w, a, b, false)
		}
		for _, b := range nobody[i:] {
			wantFree(t, "two that touch nobody", p, w, a, b, false)
		}
	}
}

// Whether they may be done is not asked: neither of one that is down, nor of a timer that is calm, nor of an event without a name.
func TestFreeOfWhatMayNotBeDone(t *testing.T) {
	p, w := program(), good()
	wantFree(t, "a delivery to one that is down", p, w, of(api.Deliver, -1, 2, 0), of(api.Deliver, 0, 0, 0), true)
	wantFree(t, "a crash of one that is down", p, w, by(api.Crash, 3), of(api.Deliver, 0, 0, 0), true)
	wantFree(t, "a timer that is calm", p, w, by(api.Time, 2), of(api.Deliver, 0, 0, 0), true)
	wantFree(t, "a delivery with a Who", p, w, api.Event{Kind: api.Deliver, ID: id(0, 4, 2), Who: 1}, of(api.Deliver, 0, 0, 0), true)
	wantFree(t, "a delivery with a Who and one without", p, w, api.Event{Kind: api.Deliver, ID: id(0, 4, 2), Who: 1}, of(api.Deliver, 0, 4, 2), false)
	wantFree(t, "a crash with an ID", p, w, api.Event{Kind: api.Crash, ID: id(0, 4, 2), Who: 1}, of(api.Deliver, -1, 1, 0), true)
	wantFree(t, "a crash with an ID and one without", p, w, api.Event{Kind: api.Crash, ID: id(0, 4, 2), Who: 1}, by(api.Crash, 2), false)
}

// whoByWords is the first promise's words, one after the other.
func whoByWords(p api.Program, w api.World, e api.Event) []int {
	if !world.Check(p, w) {
		return nil
	}
	touched := [8]bool{}
	there := false
	for _, m := range w.Mail {
		if m.ID == e.ID && e.Kind >= 1 && e.Kind <= 3 {
			touched[m.Note.To], there = true, true
		}
	}
	if (e.Kind == 4 || e.Kind == 5) && e.Who >= 0 && e.Who < len(w.Actors) {
		touched[e.Who], there = true, true
	}
	if !there {
		return nil
	}
	for _, n := range step.Notes(p, w, e) {
		touched[n.To] = true
	}
	var out []int
	for who, yes := range touched {
		if yes {
			out = append(out, who)
		}
	}
	return out
}

func freeByWords(p api.Program, w api.World, a, b api.Event) bool {
	if a == b || a.Kind == b.Kind && a.Kind >= 2 && a.Kind <= 5 {
		return false
	}
	one, two := whoByWords(p, w, a), whoByWords(p, w, b)
	common := slices.ContainsFunc(one, func(n int) bool { return slices.Contains(two, n) })
	return len(one) > 0 && len(two) > 0 && !common
}

// Every two candidates of some worlds, both ways.
func TestFreeOfAllPairs(t *testing.T) {
	p, w := telling([5]int{1, 2, 2, 0, 3})
	yes := 0
	for _, at := range []api.World{good(), w} {
		all := candidates(at)
		for i, a := range all {
			wantWho(t, "any", p, at, a, whoByWords(p, at, a)...)
			for _, b := range all[i:] {
				want := freeByWords(p, at, a, b)
				wantFree(t, "any two", p, at, a, b, want)
				if want {
					yes++
				}
			}
		}
	}
	if yes < 100 {
		t.Errorf("%d are too few to tell", yes)
	}
}

// happening is an event, and what it makes of the good world with telling handlers, in words of its own.
type happening struct {
	e     api.Event
	after func(w *api.World)
}

// happenings are of each kind some that touch but their own actor, or those beside it that are named.
func happenings() []happening {
	var out []happening
	add := func(e api.Event, after func(w *api.World)) { out = append(out, happening{e, after}) }
	add(of(api.Deliver, 0, 4, 2), func(w *api.World) { // 0 and 1
		gone(w, id(0, 4, 2))
		w.Actors[0].Regs[1], w.Actors[0].Sent = 1, 6
		come(w, msg(0, 5, 0, note(1, stores, 20)))
	})
	add(of(api.Deliver, 0, 0, 0), func(w *api.World) { // 1
		gone(w, id(0, 0, 0))
		w.Actors[1].Regs[0] = 8
	})
	add(of(api.Deliver, 1, 0, 0), func(w *api.World) { // 4 and 3, which has no room
		gone(w, id(1, 0, 0))
		w.Actors[4].Sent, w.Actors[3].Over = 1, 1
	})
	add(of(api.Deliver, -1, 1, 0), func(w *api.World) { // 2 and itself, then a fall
		gone(w, id(-1, 1, 0))
		w.Actors[2].Down = api.Divided
	})
	for who := range 5 {
		add(ofID(api.Drop, toActor(who)), func(w *api.World) {
			gone(w, toActor(who))
			w.Used.Drop++
		})
		add(ofID(api.Dup, toActor(who)), func(w *api.World) { doubled(w, who) })
		add(by(api.Crash, who), func(w *api.World) {
			w.Used.Crash++
			w.Actors[who].Down = api.Crashed
		})
	}
	for _, who := range []int{0, 4} {
		add(by(api.Time, who), func(w *api.World) {
			w.Used.Time++
			w.Actors[who].Regs[0]++
		})
	}
	add(by(api.Time, 2), func(w *api.World) {
		w.Used.Time++
		w.Actors[2].Armed = false
	})
	return out
}

// doubled is what a doubling of the message of toActor makes of the good world: only 0, 1 and 2 have room.
func doubled(w *api.World, who int) {
	w.Used.Dup++
	for _, m := range w.Mail {
		if m.ID == toActor(who) && who < 3 {
			come(w, msg(m.ID.From, m.ID.N, 3, m.Note))
			return
		}
	}
	w.Actors[who].Over++
}

// happy is the world of the happenings: the good one, all running, the timers of all but 1 armed.
func happy() (api.Program, api.World) {
	p, w := program(), good()
	p.Handlers = append(p.Handlers, handler(0, "push 3; send 0"), handler(0, "self; send 0; push 1; push 0; div; pop"))
	w.Mail[0].Note.Handler, w.Mail[4].Note.Handler = free+2, free+1
	w.Actors[2].Armed, w.Actors[3].Down = true, api.Runs
	return p, w
}

// kinds is a pair of kinds, the lower one first.
type kinds struct{ low, high int }

func kindsOf(a, b api.Event) kinds { return kinds{min(a.Kind, b.Kind), max(a.Kind, b.Kind)} }

// wantAllKinds tells whether every two kinds were seen that may be Free: two faults of one kind never are.
func wantAllKinds(t *testing.T, seen map[kinds]int, least int) {
	t.Helper()
	for low := api.Deliver; low <= api.Crash; low++ {
		for high := low; high <= api.Crash; high++ {
			n := seen[kinds{low, high}]
			if same := low == high && low != api.Deliver; same && n > 0 || !same && n < least {
				t.Errorf("%d pairs of kinds %d and %d are free", n, low, high)
			}
		}
	}
}

// Both orders make the world that is written down.
func TestBothOrders(t *testing.T) {
	seen := map[kinds]int{}
	for _, one := range happenings() {
		for _, two := range happenings() {
			p, w := happy()
			if !Free(p, w, one.e, two.e) {
				continue
			}
			seen[kindsOf(one.e, two.e)]++
			first, _ := step.Do(p, lasting(), w, one.e)
			got, err := step.Do(p, lasting(), first, two.e)
			_, want := happy()
			one.after(&want)
			two.after(&want)
			if err != api.OK || told(got) != told(want) {
				t.Errorf("P12.2: %s and then %s is %d, and makes\n%s\nnot\n%s", ident.Name(one.e), ident.Name(two.e), err, told(got), told(want))
			}
		}
	}
	wantAllKinds(t, seen, 2)
}

// Unlike ones that may both be done, but are not Free: the two orders make two worlds, or one of them can't be gone to its end.
func TestOrdersThatCount(t *testing.T) {
	p, w := happy()
	p.Handlers[stores] = handler(1, "load 0; push 2; mul; arg 0; add; store 0")
	w.Mail[1].Note = note(1, stores, 5)
	for _, pair := range [][2]api.Event{
		{of(api.Deliver, 0, 0, 0), of(api.Deliver, -1, 2, 0)}, // one register, in two ways
		{of(api.Dup, 0, 0, 0), of(api.Dup, 0, 4, 2)},          // copies with each other's numbers
		{of(api.Deliver, 0, 0, 0), of(api.Drop, 0, 0, 0)},     // once it is gone, it is gone
		{of(api.Drop, 0, 0, 0), of(api.Dup, 0, 0, 0)},
		{by(api.Crash, 0), by(api.Time, 0)},
		{by(api.Crash, 1), of(api.Deliver, 0, 0, 0)},
		{by(api.Crash, 0), by(api.Crash, 2)}, // the budget lets but one
		{by(api.Time, 0), by(api.Time, 4)},
		{of(api.Drop, 0, 0, 0), of(api.Drop, -1, 1, 0)},
	} {
		wantFree(t, "two whose order counts", p, w, pair[0], pair[1], false)
		one, e := step.Do(p, lasting(), w, pair[0])
		two, f := step.Do(p, lasting(), w, pair[1])
		if e != api.OK || f != api.OK {
			t.Fatalf("%v may not be done", pair)
		}
		b := lasting()
		b.Dup++
		onetwo, e := step.Do(p, b, one, pair[1])
		twoone, f := step.Do(p, b, two, pair[0])
		if e == api.OK && f == api.OK && told(onetwo) == told(twoone) {
			t.Errorf("the order of %v does not count", pair)
		}
	}
}

// small are programs whose worlds are soon gone through: of each a budget, and how many events deep.
func small() []struct {
	p     api.Program
	b     api.Budget
	depth int
} {
	busy := program()
	busy.Actors[2].Timer, busy.Actors[2].Armed = counts, true
	tight := program()
	for i := range tight.Actors {
		tight.Actors[i].Cap = 1
	}
	tight.Handlers[counts] = handler(0, "load 0; push 2; mod; push 1; send 1; self; push 1; add; push 5; mod; send 0")
	tight.Boot = append(tight.Boot, note(3, counts), note(4, tells, 7), note(3, stores, 1))
	falling := program()
	falling.Handlers[counts] = handler(0, "self; load 0; send 1; push 1; load 0; div; pop; push 0; store 0; arm")
	falling.Boot = append(falling.Boot, note(2, counts), note(1, counts), note(3, tells, 0))
	return []struct {
		p     api.Program
		b     api.Budget
		depth int
	}{{busy, budget(1, 2, 2, 1), 3}, {tight, budget(1, 1, 2, 1), 3}, {falling, budget(1, 1, 1, 1), 3}, {tight, api.Budget{}, 7}}
}

// wantEitherOrder holds two that are Free and may be done against the second promise.
func wantEitherOrder(t *testing.T, p api.Program, b api.Budget, w api.World, x, y api.Event) {
	t.Helper()
	one, e := step.Do(p, b, w, x)
	two, f := step.Do(p, b, w, y)
	onetwo, g := step.Do(p, b, one, y)
	twoone, h := step.Do(p, b, two, x)
	if e != api.OK || f != api.OK || g != api.OK || h != api.OK {
		t.Fatalf("P12.2: %s and %s can't be done in either order, in\n%s", ident.Name(x), ident.Name(y), told(w))
	}
	if told(onetwo) != told(twoone) {
		t.Fatalf("P12.2: %s and %s make\n%s\nand the other way\n%s", ident.Name(x), ident.Name(y), told(onetwo), told(twoone))
	}
	if !slices.Equal(Who(p, w, y), Who(p, one, y)) || !slices.Equal(Who(p, w, x), Who(p, two, x)) {
		t.Fatalf("P12.2: %s and %s touch others behind each other, in\n%s", ident.Name(x), ident.Name(y), told(w))
	}
}

// pairs holds every two events that may be done in a world against the first promise, and those that are Free against the second.
func pairs(t *testing.T, p api.Program, b api.Budget, w api.World, seen map[kinds]int) {
	t.Helper()
	l := event.Enabled(p, b, w)
	for i, x := range l {
		wantWho(t, "one of a world", p, w, x, whoByWords(p, w, x)...)
		for _, y := range l[i:] {
			wantFree(t, "two of a world", p, w, x, y, freeByWords(p, w, x, y))
			if Free(p, w, x, y) {
				seen[kindsOf(x, y)]++
				wantEitherOrder(t, p, b, w, x, y)
			}
		}
	}
}

// All worlds that a schedule may lead to, up to a depth.
func TestFreeOfAll(t *testing.T) {
	all := map[kinds]int{}
	for i, s := range small() {
		start, e := world.Start(s.p)
		if e != api.OK {
			t.Fatalf("program %d is refused by %d", i, e)
		}
		at := []api.World{start}
		known := map[string]bool{told(start): true}
		for range s.depth {
			var next []api.World
			for _, w := range at {
				pairs(t, s.p, s.b, w, all)
				for _, e := range event.Enabled(s.p, s.b, w) {
					behind, _ := step.Do(s.p, s.b, w, e)
					if k := told(behind); !known[k] {
						known[k] = true
						next = append(next, behind)
					}
				}
			}
			at = next
		}
	}
	wantAllKinds(t, all, 100)
}

// At the greatest counts for which the promise stands: what they send makes them greater.
func TestFreeAtTheGreatestCounts(t *testing.T) {
	const most = 1<<40 - 1
	p, w := happy()
	p.Handlers[counts] = handler(0, "self; send 0; self; send 0; self; send 0")
	for i := range p.Actors {
		p.Actors[i].Cap = 1
		w.Actors[i].Sent, w.Actors[i].Over = most, most
	}
	seen := map[kinds]int{}
	pairs(t, p, lasting(), w, seen)
	wantAllKinds(t, seen, 2)
}

// With as much used as a budget may be, and one left of each.
func TestFreeAtTheGreatestBudget(t *testing.T) {
	p, w := happy()
	w.Used = budget(999, 999, 999, 999)
	seen := map[kinds]int{}
	pairs(t, p, budget(1000, 1000, 1000, 1000), w, seen)
	wantAllKinds(t, seen, 2)
}

// room is a list with spare room behind it, which holds numbers too.
func room[T any](l []T, spare T) []T {
	out := append(make([]T, 0, len(l)+3), l...)
	for i := len(l); i < len(l)+3; i++ {
		out[:cap(out)][i] = spare
	}
	return out
}

func roomyProgram() api.Program {
	p, _ := happy()
	p.Handlers, p.Actors, p.Boot = room(p.Handlers, api.Handler{Args: 7}), room(p.Actors, api.Actor{Cap: 7}), room(p.Boot, note(7, 7))
	for i := range p.Handlers {
		p.Handlers[i].Code = room(p.Handlers[i].Code, api.Instr{Op: 7, A: 7})
	}
	for i := range p.Actors {
		p.Actors[i].Regs = room(p.Actors[i].Regs, 7)
	}
	for i := range p.Boot {
		p.Boot[i].Args = room(p.Boot[i].Args, 7)
	}
	return p
}

func roomyWorld() api.World {
	_, w := happy()
	w.Actors, w.Mail = room(w.Actors, api.Local{Sent: 7}), room(w.Mail, msg(7, 7, 7, note(7, 7)))
	for i := range w.Actors {
		w.Actors[i].Regs = room(w.Actors[i].Regs, 7)
	}
	for i := range w.Mail {
		w.Mail[i].Note.Args = room(w.Mail[i].Note.Args, 7)
	}
	return w
}

// whole writes all of it, with the spare room of each list.
func whole(p api.Program, w api.World) string {
	out := []any{p.Fuel, w.Used}
	for _, h := range p.Handlers[:cap(p.Handlers)] {
		out = append(out, h.Args, len(h.Code), h.Code[:cap(h.Code)])
	}
	for _, a := range p.Actors[:cap(p.Actors)] {
		out = append(out, a, a.Regs[:cap(a.Regs)])
	}
	for _, n := range p.Boot[:cap(p.Boot)] {
		out = append(out, n, n.Args[:cap(n.Args)])
	}
	for _, a := range w.Actors[:cap(w.Actors)] {
		out = append(out, a, a.Regs[:cap(a.Regs)])
	}
	for _, m := range w.Mail[:cap(w.Mail)] {
		out = append(out, m, m.Note.Args[:cap(m.Note.Args)])
	}
	return fmt.Sprint(out...)
}

func TestNothingHandedInIsChanged(t *testing.T) {
	p, w := roomyProgram(), roomyWorld()
	was := whole(p, w)
	same := func(what string) {
		t.Helper()
		if whole(p, w) != was {
			t.Fatalf("P12.3: %s changed what it was given", what)
		}
	}
	for _, e := range candidates(good()) {
		Who(p, w, e)
		same("Who of " + fmt.Sprint(e))
		for _, other := range event.Enabled(p, lasting(), w) {
			Free(p, w, e, other)
			same("Free of " + fmt.Sprint(e, other))
		}
	}
	p.Fuel = 0
	was = whole(p, w)
	Who(p, w, by(api.Crash, 0))
	Free(p, w, by(api.Crash, 0), by(api.Time, 4))
	same("what is refused")
}

func TestMeetsChangesNothing(t *testing.T) {
	all := append(shortLists(), []int{9, 2, 9, 5, 2}, []int{5, 4, 3, 2, 1, 0})
	for _, l := range all {
		for _, k := range all {
			a, b := room(l, 7), room(k, 7)
			Meets(a, b)
			if !slices.Equal(a[:cap(a)], room(l, 7)[:cap(a)]) || !slices.Equal(b[:cap(b)], room(k, 7)[:cap(b)]) {
				t.Fatalf("P12.3: Meets made %v and %v of %v and %v", a[:cap(a)], b[:cap(b)], l, k)
			}
		}
	}
	one := []int{3, 1, 2}
	if !Meets(one, one) || !Meets(one[:2], one[1:]) || Meets(one[:1], one[1:]) || !slices.Equal(one, []int{3, 1, 2}) {
		t.Errorf("P12.3: Meets of two lists in one memory leaves %v", one)
	}
}

// spoil writes into all numbers of a list, to the end of its room.
func spoil(l []int) {
	for i := range l[:cap(l)] {
		l[:cap(l)][i] = -99
	}
}

// What is answered is written over, to the end of its room: neither what was handed in, nor what is answered later, nor what was answered ahead, changes by that.
func TestWhatIsAnsweredIsNew(t *testing.T) {
	p, w := roomyProgram(), roomyWorld()
	was := whole(p, w)
	for _, e := range candidates(good()) {
		want := whoByWords(p, w, e)
		ahead, got := Who(p, w, e), Who(p, w, e)
		spoil(got)
		if whole(p, w) != was {
			t.Fatalf("P12.3: what Who of %v answers stands in the memory of what it was given", e)
		}
		if !slices.Equal(ahead, want) {
			t.Fatalf("P12.3: two answers of Who of %v stand in one memory", e)
		}
		wantWho(t, "one whose answer was written over", p, w, e, want...)
	}
}

// What was handed in is written over: what was answered stays, and what is asked again goes by the new numbers.
func TestNothingIsKept(t *testing.T) {
	p, w := happy()
	e, other := of(api.Deliver, 0, 4, 2), of(api.Deliver, -1, 1, 0)
	first := Who(p, w, e)
	wantFree(t, "two", p, w, e, other, true)
	p.Handlers[tells].Code[1].A = 2
	second := Who(p, w, e)
	wantFree(t, "two, where the code was changed", p, w, e, other, false)
	w.Mail[3].Note.To = 4
	third := Who(p, w, e)
	w.Actors[4].Down = api.Crashed
	fourth := Who(p, w, e)
	w.Used.Drop = -1
	fifth := Who(p, w, e)
	p.Handlers, p.Actors, w.Actors, w.Mail = nil, nil, nil, nil
	got := fmt.Sprint(first, second, third, fourth, fifth)
	if got != "[0 1] [0 2] [2 4] [4] []" {
		t.Errorf("P12.3: what Who answers, where it was changed in between, is %s", got)
	}
	a, b := []int{1, 5}, []int{2, 5}
	wantMeets(t, a, b, true)
	b[1] = 6
	wantMeets(t, a, b, false)
	a[0] = 6
	wantMeets(t, a, b, true)
}

// A list that is nil and one that is empty mean the same.
func TestNilIsEmpty(t *testing.T) {
	p, w := happy()
	p.Handlers[free].Code, p.Boot[1].Args, w.Mail[0].Note.Args = []api.Instr{}, []int{}, []int{}
	q, x := happy()
	for _, e := range candidates(good()) {
		wantWho(t, "one with empty lists", p, w, e, Who(q, x, e)...)
	}
	w.Mail, x.Mail = []api.Message{}, nil
	for _, e := range candidates(good()) {
		wantWho(t, "one with nothing on its way", p, w, e, Who(q, x, e)...)
	}
}

// The same question has the same answer, however often.
func TestTheSameAnswers(t *testing.T) {
	p, w := telling([5]int{1, 2, 2, 0, 3})
	for range 20 {
		for who := range 5 {
			wantWho(t, "the same", p, w, ofID(api.Deliver, toActor(who)), together(who, []int{[5]int{1, 2, 2, 0, 3}[who]})...)
		}
		wantFree(t, "the same two", p, w, ofID(api.Deliver, toActor(0)), ofID(api.Deliver, toActor(2)), true)
	}
}
