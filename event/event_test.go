package event

import (
	"fmt"
	"math"
	"slices"
	"strings"
	"testing"

	"gavotte/api"
	"gavotte/flow"
	"gavotte/ident"
	"gavotte/mail"
	"gavotte/ops"
	"gavotte/world"
)

func id(from, n, last int) api.ID { return api.ID{From: from, N: n, Copy: last} }

func note(to, handler int, args ...int) api.Note {
	return api.Note{To: to, Handler: handler, Args: args}
}

func msg(from, n, last int, m api.Note) api.Message {
	return api.Message{ID: id(from, n, last), Note: m}
}

func budget(drop, dup, time, crash int) api.Budget {
	return api.Budget{Drop: drop, Dup: dup, Time: time, Crash: crash}
}

// fourOf are the places of a budget, in the order in which budget takes them.
func fourOf(b *api.Budget) []*int { return []*int{&b.Drop, &b.Dup, &b.Time, &b.Crash} }

// program is five actors and three handlers; made anew each time, as tests change it.
func program() api.Program {
	return api.Program{
		Handlers: []api.Handler{
			{Code: []api.Instr{{Op: ops.Push, A: 8}, {Op: ops.Push, A: 1}, {Op: ops.Send, A: 1}}},
			{Args: 1, Code: []api.Instr{{Op: ops.Arg, A: 0}, {Op: ops.Store, A: 0}}},
			{},
		},
		Actors: []api.Actor{
			{Regs: []int{4, 5}, Cap: 3, Timer: 0, Armed: true},
			{Regs: []int{6}, Cap: 16, Timer: -1},
			{Cap: 1, Timer: 2},
			{Regs: []int{7}, Cap: 2, Timer: 2, Armed: true},
			{Cap: 4, Timer: 0, Armed: true},
		},
		Boot: []api.Note{note(1, 1, 10), note(2, 0), note(3, 2)},
		Fuel: 64,
	}
}

// good is a world of that program: actor 0 is armed, 1 has no timer, 2 is calm, 3 is armed but down, 4 is armed; a message goes to each of them, one is a copy, and one has the ID that is zero.
func good() api.World {
	return api.World{
		Actors: []api.Local{
			{Regs: []int{7, 0}, Armed: true, Sent: 5, Over: 1},
			{Regs: []int{-6}, Sent: 1},
			{Over: 2},
			{Regs: []int{math.MinInt}, Armed: true, Down: api.Divided, Sent: 3},
			{Armed: true},
		},
		Mail: []api.Message{
			msg(-1, 1, 0, note(2, 0)),
			msg(-1, 2, 0, note(3, 2)),
			msg(0, 0, 0, note(1, 1, 8)),
			msg(0, 4, 2, note(0, 1, math.MaxInt)),
			msg(1, 0, 0, note(4, 2)),
			msg(3, 2, 0, note(3, 1, -1)),
		},
		Used: budget(1, 2, 3, 4),
	}
}

// lasting leaves one of each in the good world.
func lasting() api.Budget { return budget(2, 3, 4, 5) }

func event(kind int, of api.ID, who int) api.Event { return api.Event{Kind: kind, ID: of, Who: who} }

// told writes events in words, so that they are easily compared.
func told(l []api.Event) string {
	var out []string
	for _, e := range l {
		out = append(out, fmt.Sprintf("%d:%d.%d.%d:%d", e.Kind, e.ID.From, e.ID.N, e.ID.Copy, e.Who))
	}
	return strings.Join(out, " ")
}

func wantEnabled(t *testing.T, what string, p api.Program, b api.Budget, w api.World, want ...api.Event) {
	t.Helper()
	if got := Enabled(p, b, w); told(got) != told(want) {
		t.Errorf("P10.1: Enabled %s:\n got %s\nwant %s", what, told(got), told(want))
	}
}

func TestMay(t *testing.T) {
	for _, n := range []int{math.MinInt, -1 << 32, -1001, -1000, -1, 0, 1, 2, 999, 1000, 1001, 1024, 1 << 31, 1 << 32, 1<<32 + 1, math.MaxInt} {
		for place := range 4 {
			for _, rest := range []int{0, 500, 1000} {
				b := budget(rest, rest, rest, rest)
				*fourOf(&b)[place] = n
				if got := May(b); got != (n >= 0 && n <= 1000) {
					t.Errorf("P10.1: May of %v is %v", b, got)
				}
			}
		}
	}
	if !May(budget(0, 1000, 0, 1000)) || !May(budget(1000, 0, 1000, 0)) {
		t.Error("P10.1: May of 0 beside 1000 is false")
	}
	if May(budget(-1, 1001, -1, 1001)) || May(budget(-1, -1, -1, -1)) || May(budget(1001, 1001, 1001, 1001)) {
		t.Error("P10.1: May of four that are all out is true")
	}
}

// leftRow is one number of a budget, what was used of it, and what is left.
type leftRow struct{ of, used, want int }

func leftRows() []leftRow {
	return []leftRow{
		{0, 0, 0}, {5, 0, 5}, {5, 4, 1}, {5, 5, 0}, {5, 6, 0}, {5, 1000, 0},
		{1000, 0, 1000}, {1000, 999, 1}, {1000, 1000, 0}, {1000, 1001, 0}, {0, 1, 0}, {1, 0, 1},
		{5, -3, 8}, {-5, -7, 2}, {-5, -5, 0}, {-5, -4, 0}, {-5, 0, 0}, {-1, 0, 0}, {1001, 0, 1001},
		{math.MaxInt, 0, math.MaxInt}, {math.MaxInt, math.MaxInt, 0}, {math.MinInt, math.MinInt, 0}, {math.MinInt, 0, 0}, {0, math.MaxInt, 0},
		{1, math.MaxInt, 0}, {-1, math.MaxInt, 0}, // the least number of all, and no wrap
		{math.MaxInt, -1, 0}, {math.MaxInt, math.MinInt, 0}, {0, math.MinInt, 0}, {1, math.MinInt, 0}, // these wrap to below 0
		{math.MinInt, 1, math.MaxInt}, {math.MinInt, math.MaxInt, 1}, {-2, math.MaxInt, math.MaxInt}, {-1, math.MinInt, math.MaxInt}, // and these to above 0, the last without a wrap
	}
}

func TestLeft(t *testing.T) {
	for _, r := range leftRows() {
		for place := range 4 {
			b, want := budget(10, 20, 30, 40), budget(9, 18, 27, 36)
			w := api.World{Used: budget(1, 2, 3, 4)}
			*fourOf(&b)[place], *fourOf(&w.Used)[place], *fourOf(&want)[place] = r.of, r.used, r.want
			if got := Left(b, w); got != want {
				t.Errorf("P10.1: Left of %v, where %v was used, is %v, not %v", b, w.Used, got, want)
			}
		}
	}
}

// Less of one, as much of another, more of a third: each counts by itself.
func TestLeftOfUnlikeOnes(t *testing.T) {
	w := api.World{Used: budget(1, 5, 9, 0)}
	if got := Left(budget(5, 5, 5, 5), w); got != budget(4, 0, 0, 5) {
		t.Errorf("P10.1: Left is %v", got)
	}
	if got := Left(budget(5, 5, 5, 5), api.World{Used: budget(9, 0, 1, 5)}); got != budget(0, 5, 4, 0) {
		t.Errorf("P10.1: Left is %v", got)
	}
	if got := Left(lasting(), good()); got != budget(1, 1, 1, 1) {
		t.Errorf("P10.1: Left in a world with all else is %v", got)
	}
}

// isRow is a change of what may happen, and whether it still may.
type isRow struct {
	what string
	do   func(p *api.Program, b *api.Budget, w *api.World, e *api.Event)
	want bool
}

// wantIs changes each of some events that may happen, one row at a time.
func wantIs(t *testing.T, events []api.Event, rows []isRow) {
	t.Helper()
	for _, was := range events {
		if !Is(program(), lasting(), good(), was) {
			t.Errorf("P10.1: Is of %s is false", told([]api.Event{was}))
		}
		for _, r := range rows {
			p, b, w, e := program(), lasting(), good(), was
			r.do(&p, &b, &w, &e)
			if got := Is(p, b, w, e); got != r.want {
				t.Errorf("P10.1: Is of %s, with %s, is %v", told([]api.Event{was}), r.what, got)
			}
			if there := slices.Contains(Enabled(p, b, w), e); there != r.want {
				t.Errorf("P10.1: Enabled has %s, with %s: %v", told([]api.Event{was}), r.what, there)
			}
		}
	}
}

// inProgram, inBudget, inWorld and inEvent are changes of one of the four alone.
func inProgram(what string, want bool, do func(p *api.Program)) isRow {
	return isRow{what, func(p *api.Program, _ *api.Budget, _ *api.World, _ *api.Event) { do(p) }, want}
}

func inBudget(what string, want bool, do func(b *api.Budget)) isRow {
	return isRow{what, func(_ *api.Program, b *api.Budget, _ *api.World, _ *api.Event) { do(b) }, want}
}

func inWorld(what string, want bool, do func(w *api.World)) isRow {
	return isRow{what, func(_ *api.Program, _ *api.Budget, w *api.World, _ *api.Event) { do(w) }, want}
}

func inEvent(what string, want bool, do func(e *api.Event)) isRow {
	return isRow{what, func(_ *api.Program, _ *api.Budget, _ *api.World, e *api.Event) { do(e) }, want}
}

// delivered, lost, doubled, rung and fallen are all events of the good world, kind by kind.
func delivered() []api.Event {
	return []api.Event{event(1, id(-1, 1, 0), 0), event(1, id(0, 0, 0), 0), event(1, id(0, 4, 2), 0), event(1, id(1, 0, 0), 0)}
}

func ofAllMail(kind int) []api.Event {
	var out []api.Event
	for _, m := range good().Mail {
		out = append(out, event(kind, m.ID, 0))
	}
	return out
}

func lost() []api.Event { return ofAllMail(api.Drop) }

func doubled() []api.Event { return ofAllMail(api.Dup) }

func rung() []api.Event { return []api.Event{event(4, api.ID{}, 0), event(4, api.ID{}, 4)} }

func fallen() []api.Event {
	return []api.Event{event(5, api.ID{}, 0), event(5, api.ID{}, 1), event(5, api.ID{}, 2), event(5, api.ID{}, 4)}
}

func ofMessages() []api.Event { return slices.Concat(delivered(), lost(), doubled()) }

func ofActors() []api.Event { return slices.Concat(rung(), fallen()) }

func everything() []api.Event { return slices.Concat(ofMessages(), ofActors()) }

// What breaks every event, of whatever kind.
func TestIsOfWhatDoesNotFit(t *testing.T) {
	wantIs(t, everything(), []isRow{
		inProgram("no fuel", false, func(p *api.Program) { p.Fuel = 0 }),
		inProgram("no program", false, func(p *api.Program) { *p = api.Program{} }),
		inProgram("an op that is none", false, func(p *api.Program) { p.Handlers[2].Code = []api.Instr{{Op: 99}} }),
		inProgram("too few on the stack", false, func(p *api.Program) { p.Handlers[2].Code = []api.Instr{{Op: ops.Pop}} }),
		inProgram("a note to nobody", false, func(p *api.Program) { p.Boot[0].To = 5 }),
		inProgram("one actor more in the program", false, func(p *api.Program) { p.Actors = append(p.Actors, api.Actor{Timer: -1}) }),
		inProgram("no notes in Boot", true, func(p *api.Program) { p.Boot = nil }),
		inProgram("all calm in the program", true, func(p *api.Program) {
			for i := range p.Actors {
				p.Actors[i].Armed = false
			}
		}),
		inProgram("mailboxes without room", true, func(p *api.Program) {
			for i := range p.Actors {
				p.Actors[i].Cap = 0
			}
		}),
		inWorld("no world", false, func(w *api.World) { *w = api.World{} }),
		inWorld("one actor more", false, func(w *api.World) { w.Actors = append(w.Actors, api.Local{}) }),
		inWorld("a register more", false, func(w *api.World) { w.Actors[2].Regs = []int{1} }),
		inWorld("a Down of 5", false, func(w *api.World) { w.Actors[3].Down = 5 }),
		inWorld("a Sent below 0", false, func(w *api.World) { w.Actors[2].Sent = -1 }),
		inWorld("an Over below 0", false, func(w *api.World) { w.Actors[1].Over = -1 }),
		inWorld("armed without a timer", false, func(w *api.World) { w.Actors[1].Armed = true }),
		inWorld("one message twice", false, func(w *api.World) { w.Mail = slices.Insert(w.Mail, 1, w.Mail[0]) }),
		inWorld("two messages turned", false, func(w *api.World) { w.Mail[0], w.Mail[1] = w.Mail[1], w.Mail[0] }),
		inWorld("a message to nobody", false, func(w *api.World) { w.Mail[5].Note.To = 5 }),
		inWorld("a message of no handler", false, func(w *api.World) { w.Mail[5].Note.Handler = 3 }),
		inWorld("a message with an argument more", false, func(w *api.World) { w.Mail[5].Note.Args = []int{1, 2} }),
		inWorld("an N that was not sent", false, func(w *api.World) { w.Mail[5].ID.N = 3 }),
		inWorld("a Copy that was not made", false, func(w *api.World) { w.Mail[5].ID.Copy = 3 }),
		inWorld("other registers", true, func(w *api.World) { w.Actors[0].Regs[0], w.Actors[3].Regs[0] = -1, 1 }),
		inWorld("another Over", true, func(w *api.World) { w.Actors[0].Over = 99 }),
		inEvent("nothing else", true, func(e *api.Event) {}),
	})
}

func TestIsOfBudgetsThatMayNotBe(t *testing.T) {
	for place := range 4 {
		for _, n := range []int{math.MinInt, -1, 1001, 1 << 32, math.MaxInt} {
			wantIs(t, everything(), []isRow{
				inBudget(fmt.Sprintf("%d at place %d of the budget", n, place), false, func(b *api.Budget) { *fourOf(b)[place] = n }),
			})
		}
		wantIs(t, everything(), []isRow{
			inBudget(fmt.Sprintf("1000 at place %d of the budget", place), true, func(b *api.Budget) { *fourOf(b)[place] = 1000 }),
		})
		for _, n := range []int{math.MinInt, -1} {
			wantIs(t, everything(), []isRow{
				inWorld(fmt.Sprintf("%d at place %d of Used", n, place), false, func(w *api.World) { *fourOf(&w.Used)[place] = n }),
			})
		}
	}
}

// Of which kind nothing is left does not count for the others.
func TestIsHangsOnWhatIsLeft(t *testing.T) {
	kinds := [][]api.Event{lost(), doubled(), rung(), fallen()}
	for place := range 4 {
		for kind, events := range kinds {
			still := kind != place
			wantIs(t, events, []isRow{
				inBudget(fmt.Sprintf("as much as was used at place %d", place), still, func(b *api.Budget) { *fourOf(b)[place]-- }),
				inBudget(fmt.Sprintf("less than was used at place %d", place), still, func(b *api.Budget) { *fourOf(b)[place] = 0 }),
				inBudget(fmt.Sprintf("more than one left at place %d", place), true, func(b *api.Budget) { *fourOf(b)[place] += 7 }),
				inWorld(fmt.Sprintf("as much used as there is at place %d", place), still, func(w *api.World) { *fourOf(&w.Used)[place]++ }),
				inWorld(fmt.Sprintf("all used that can be at place %d", place), still, func(w *api.World) { *fourOf(&w.Used)[place] = math.MaxInt }),
			})
		}
	}
	wantIs(t, delivered(), []isRow{
		inBudget("no budget", true, func(b *api.Budget) { *b = api.Budget{} }),
		inWorld("all used", true, func(w *api.World) { w.Used = lasting() }),
		inWorld("far more used than there was", true, func(w *api.World) { w.Used = budget(math.MaxInt, math.MaxInt, math.MaxInt, math.MaxInt) }),
	})
	wantIs(t, slices.Concat(lost(), doubled(), ofActors()), []isRow{
		inBudget("no budget", false, func(b *api.Budget) { *b = api.Budget{} }),
		inWorld("all used", false, func(w *api.World) { w.Used = lasting() }),
	})
}

func TestIsOfMessages(t *testing.T) {
	var rows []isRow
	for _, who := range []int{math.MinInt, -1, 1, 2, 4, 5, 1 << 32, math.MaxInt} {
		rows = append(rows, inEvent(fmt.Sprintf("a Who of %d", who), false, func(e *api.Event) { e.Who = who }))
	}
	for _, other := range []api.ID{id(-1, 0, 0), id(-1, 3, 0), id(0, 4, 0), id(0, 4, 1), id(4, 0, 0), id(-2, 0, 0), id(math.MinInt, math.MaxInt, -1)} {
		rows = append(rows, inEvent(fmt.Sprintf("an ID %v that is not there", other), false, func(e *api.Event) { e.ID = other }))
	}
	rows = append(rows,
		inEvent("another From", false, func(e *api.Event) { e.ID.From = 2 }),
		inEvent("another N", false, func(e *api.Event) { e.ID.N += 10 }),
		inEvent("another Copy", false, func(e *api.Event) { e.ID.Copy++ }),
		inEvent("another ID that is there", true, func(e *api.Event) { e.ID = id(1, 0, 0) }),
		inWorld("nothing on its way", false, func(w *api.World) { w.Mail = nil }),
		isRow{"the message gone", func(_ *api.Program, _ *api.Budget, w *api.World, e *api.Event) {
			w.Mail = slices.DeleteFunc(w.Mail, func(m api.Message) bool { return m.ID == e.ID })
		}, false},
		isRow{"the message alone", func(_ *api.Program, _ *api.Budget, w *api.World, e *api.Event) {
			w.Mail = slices.DeleteFunc(w.Mail, func(m api.Message) bool { return m.ID != e.ID })
		}, true},
		inWorld("all calm", true, func(w *api.World) {
			for i := range w.Actors {
				w.Actors[i].Armed = false
			}
		}),
	)
	wantIs(t, ofMessages(), rows)
}

// down makes the receiver of an event's message, or its actor, go down; or all others, but not that one.
func down(why int, others bool, want bool) isRow {
	return isRow{fmt.Sprintf("a Down of %d (of others: %v)", why, others), func(_ *api.Program, _ *api.Budget, w *api.World, e *api.Event) {
		who := e.Who
		if at := mail.Find(w.Mail, e.ID); e.Kind <= api.Dup && at >= 0 {
			who = w.Mail[at].Note.To
		}
		for i := range w.Actors {
			if (i != who) == others {
				w.Actors[i].Down = why
			}
		}
	}, want}
}

func TestIsOfThoseThatAreDown(t *testing.T) {
	for why := api.Crashed; why <= api.Lost; why++ {
		wantIs(t, slices.Concat(delivered(), ofActors()), []isRow{down(why, false, false), down(why, true, true)})
		wantIs(t, slices.Concat(lost(), doubled()), []isRow{down(why, false, true), down(why, true, true)})
	}
	for _, of := range []api.ID{id(-1, 2, 0), id(3, 2, 0)} {
		if Is(program(), lasting(), good(), event(api.Deliver, of, 0)) {
			t.Errorf("P10.1: %v is delivered to one that is down", of)
		}
	}
	for _, kind := range []int{api.Time, api.Crash} {
		if Is(program(), lasting(), good(), event(kind, api.ID{}, 3)) {
			t.Errorf("P10.1: kind %d may happen to one that is down", kind)
		}
	}
	wantIs(t, delivered(), []isRow{inWorld("who sent it down", true, func(w *api.World) {
		for i := range w.Mail {
			w.Mail[i].Note = note(4, 2)
		}
		w.Actors[0].Down, w.Actors[1].Down = api.Crashed, api.Starved
	})})
}

func TestIsOfActors(t *testing.T) {
	var rows []isRow
	for _, other := range []api.ID{id(-1, 1, 0), id(0, 4, 2), id(1, 0, 0), id(-1, 0, 0), id(0, 1, 0), id(0, 0, 1), id(0, 0, -1), id(0, math.MinInt, 0), id(math.MaxInt, 0, 0)} {
		rows = append(rows, inEvent(fmt.Sprintf("an ID of %v", other), false, func(e *api.Event) { e.ID = other }))
	}
	for _, who := range []int{math.MinInt, -1 << 32, -5, -2, -1, 5, 6, 7, 8, 9, 16, 1 << 32, math.MaxInt} {
		rows = append(rows, inEvent(fmt.Sprintf("a Who of %d that is no actor", who), false, func(e *api.Event) { e.Who = who }))
	}
	rows = append(rows,
		inWorld("nothing on its way", true, func(w *api.World) { w.Mail = nil }),
		inWorld("another Sent", true, func(w *api.World) { w.Actors[4].Sent = 1<<41 - 1 }),
	)
	wantIs(t, ofActors(), rows)
}

func TestIsOfTimers(t *testing.T) {
	calm := isRow{"its timer calm", func(_ *api.Program, _ *api.Budget, w *api.World, e *api.Event) { w.Actors[e.Who].Armed = false }, false}
	wantIs(t, rung(), []isRow{
		calm,
		inWorld("the others calm", true, func(w *api.World) { w.Actors[3].Armed = false }),
	})
	calm.want = true
	wantIs(t, fallen(), []isRow{calm})
	for _, who := range []int{1, 2} {
		if Is(program(), lasting(), good(), event(api.Time, api.ID{}, who)) {
			t.Errorf("P10.1: the timer of actor %d, which is not armed, rings", who)
		}
	}
	w := good()
	w.Actors[2].Armed = true
	if !Is(program(), lasting(), w, event(api.Time, api.ID{}, 2)) {
		t.Error("P10.1: a timer that is calm in the program, and armed in the world, does not ring")
	}
	w.Actors[3].Down = api.Runs
	if !Is(program(), lasting(), w, event(api.Time, api.ID{}, 3)) {
		t.Error("P10.1: an armed timer does not ring")
	}
}

func TestIsOfKindsThatAreNone(t *testing.T) {
	var rows []isRow
	for _, kind := range []int{math.MinInt, -5, -4, -3, -2, -1, 0, 6, 7, 8, 256, 257, 1<<32 + 1, math.MaxInt} {
		rows = append(rows, inEvent(fmt.Sprintf("a Kind of %d", kind), false, func(e *api.Event) { e.Kind = kind }))
	}
	wantIs(t, everything(), rows)
	if Is(program(), lasting(), good(), api.Event{}) || Is(api.Program{}, api.Budget{}, api.World{}, api.Event{}) {
		t.Error("P10.1: an event that is zero may happen")
	}
}

func TestEnabled(t *testing.T) {
	p, w := program(), good()
	wantEnabled(t, "without a budget", p, api.Budget{}, w, delivered()...)
	wantEnabled(t, "with just what was used", p, w.Used, w, delivered()...)
	wantEnabled(t, "with one of each", p, lasting(), w, everything()...)
	wantEnabled(t, "with all", p, budget(1000, 1000, 1000, 1000), w, everything()...)
	for place, events := range [][]api.Event{lost(), doubled(), rung(), fallen()} {
		b := good().Used
		*fourOf(&b)[place]++
		wantEnabled(t, fmt.Sprintf("with one at place %d", place), p, b, w, slices.Concat(delivered(), events)...)
		b = budget(1000, 1000, 1000, 1000)
		*fourOf(&b)[place] = 0
		without := slices.DeleteFunc(everything(), func(e api.Event) bool { return slices.Contains(events, e) })
		wantEnabled(t, fmt.Sprintf("with none at place %d alone", place), p, b, w, without...)
		for _, n := range []int{-1, 1001} {
			*fourOf(&b)[place] = n
			wantEnabled(t, fmt.Sprintf("with %d at place %d", n, place), p, b, w)
		}
	}
}

func TestEnabledWithNothingOnItsWay(t *testing.T) {
	p, w := program(), good()
	for _, none := range [][]api.Message{nil, {}} {
		w.Mail = none
		wantEnabled(t, "with nothing on its way", p, lasting(), w, ofActors()...)
		wantEnabled(t, "with nothing on its way, without a budget", p, api.Budget{}, w)
	}
}

func TestEnabledOfThoseThatAreDown(t *testing.T) {
	p, w := program(), good()
	for i := range w.Actors {
		w.Actors[i].Down = 1 + i%4
	}
	wantEnabled(t, "with all down", p, lasting(), w, slices.Concat(lost(), doubled())...)
	wantEnabled(t, "with all down, without a budget", p, api.Budget{}, w)
	w.Actors[3].Down = api.Runs
	want := slices.Concat([]api.Event{event(1, id(-1, 2, 0), 0), event(1, id(3, 2, 0), 0)}, lost(), doubled(), []api.Event{event(4, api.ID{}, 3), event(5, api.ID{}, 3)})
	wantEnabled(t, "with all down but one", p, lasting(), w, want...)
}

func TestEnabledOfTimers(t *testing.T) {
	p, w := program(), good()
	for i := range w.Actors {
		w.Actors[i].Armed = false
	}
	wantEnabled(t, "with all calm", p, lasting(), w, slices.Concat(ofMessages(), fallen())...)
	for _, i := range []int{0, 2, 3, 4} {
		w.Actors[i].Armed = true
	}
	rings := []api.Event{event(4, api.ID{}, 0), event(4, api.ID{}, 2), event(4, api.ID{}, 4)}
	wantEnabled(t, "with all armed", p, lasting(), w, slices.Concat(ofMessages(), rings, fallen())...)
}

func TestEnabledOfWhatDoesNotFit(t *testing.T) {
	p, w := program(), good()
	wantEnabled(t, "of nothing", api.Program{}, api.Budget{}, api.World{})
	wantEnabled(t, "of no program", api.Program{}, lasting(), w)
	wantEnabled(t, "of no world", p, lasting(), api.World{})
	w.Mail[5].Note.To = 5
	wantEnabled(t, "with a message to nobody", p, lasting(), w)
	p.Fuel = 257
	wantEnabled(t, "of a program that may not be", p, lasting(), good())
}

// More on its way than a mailbox holds, and than the tests above have: each once, and in order.
func TestEnabledOfMany(t *testing.T) {
	p, w := program(), good()
	w.Mail, w.Actors[0].Sent, w.Used = nil, 100, budget(0, 20, 0, 0)
	var want []api.Event
	for n := range 100 {
		for last := range 20 {
			w.Mail = append(w.Mail, msg(0, n, last, note(n%2, 1, n)))
		}
	}
	for kind := api.Deliver; kind <= api.Dup; kind++ {
		for _, m := range w.Mail {
			want = append(want, event(kind, m.ID, 0))
		}
	}
	wantEnabled(t, "of many messages", p, budget(1, 21, 0, 0), w, want...)
	p = api.Program{Handlers: make([]api.Handler, 1), Fuel: 1}
	w, want = api.World{}, nil
	for range api.MaxActors {
		p.Actors = append(p.Actors, api.Actor{})
		w.Actors = append(w.Actors, api.Local{Armed: true})
	}
	for kind := api.Time; kind <= api.Crash; kind++ {
		for who := range api.MaxActors {
			want = append(want, event(kind, api.ID{}, who))
		}
	}
	wantEnabled(t, "of eight actors", p, budget(0, 0, 1, 1), w, want...)
}

// byWords is Is by the document's words, one after the other.
func byWords(p api.Program, b api.Budget, w api.World, e api.Event) bool {
	if !world.Check(p, w) {
		return false
	}
	left := map[int]int{api.Drop: b.Drop - w.Used.Drop, api.Dup: b.Dup - w.Used.Dup, api.Time: b.Time - w.Used.Time, api.Crash: b.Crash - w.Used.Crash}
	for _, n := range []int{b.Drop, b.Dup, b.Time, b.Crash} {
		if n < 0 || n > 1000 {
			return false
		}
	}
	if e.Kind < 1 || e.Kind > 5 || e.Kind != api.Deliver && left[e.Kind] <= 0 {
		return false
	}
	if e.Kind >= api.Time {
		return e.ID == id(0, 0, 0) && e.Who >= 0 && e.Who < len(w.Actors) && w.Actors[e.Who].Down == 0 && (e.Kind == api.Crash || w.Actors[e.Who].Armed)
	}
	for _, m := range w.Mail {
		if m.ID == e.ID {
			return e.Who == 0 && (e.Kind != api.Deliver || w.Actors[m.Note.To].Down == 0)
		}
	}
	return false
}

// candidates are events of all kinds, of all messages that some world of a test has, and of some more.
func candidates(mails []api.Message) []api.Event {
	ids := []api.ID{{}, id(-1, 9, 0), id(0, 0, 7)}
	for _, m := range mails {
		ids = append(ids, m.ID)
	}
	var out []api.Event
	for kind := 0; kind <= 6; kind++ {
		for _, of := range ids {
			for who := -1; who <= 3; who++ {
				out = append(out, event(kind, of, who))
			}
		}
	}
	slices.SortFunc(out, func(a, b api.Event) int {
		switch {
		case ident.Before(a, b):
			return -1
		case ident.Before(b, a):
			return 1
		}
		return 0
	})
	return slices.Compact(out)
}

// All sets of five messages, with all states of three actors, and budgets: Is is as the words say, and Enabled all that Is, each once, by ident's Before, and nothing else.
func TestIsAndEnabledOfAll(t *testing.T) {
	p := api.Program{Handlers: make([]api.Handler, 1), Actors: []api.Actor{{}, {Timer: -1}, {}}, Fuel: 1}
	mails := []api.Message{msg(-1, 0, 0, note(0, 0)), msg(-1, 3, 1, note(2, 0)), msg(0, 0, 0, note(1, 0)), msg(1, 1, 0, note(0, 0)), msg(1, 1, 1, note(1, 0))}
	some := candidates(mails)
	count := 0
	for set := range 1 << len(mails) {
		w := api.World{Actors: []api.Local{{Sent: 1}, {Sent: 2}, {}}, Used: budget(1, 1, 1, 1)}
		for i, m := range mails {
			if set>>i&1 == 1 {
				w.Mail = append(w.Mail, m)
			}
		}
		for state := range 1 << 5 {
			w.Actors[0].Armed, w.Actors[2].Armed = state&1 != 0, state&2 != 0
			for i := range 3 {
				w.Actors[i].Down = state >> (2 + i) & 1 * (1 + i)
			}
			for pick := range 1 << 4 {
				b := budget(1+pick&1, 1+pick>>1&1, 1+pick>>2&1, 1+pick>>3&1)
				wantByWords(t, p, b, w, some)
				count++
			}
		}
	}
	if count != 32*32*16 {
		t.Errorf("%d worlds and budgets were tried", count)
	}
}

func wantByWords(t *testing.T, p api.Program, b api.Budget, w api.World, some []api.Event) {
	t.Helper()
	var want []api.Event
	for at, e := range some {
		may := byWords(p, b, w, e)
		if may {
			want = append(want, e)
		}
		// Each world asks some of the others alone: all of them together would take long.
		if (at+len(w.Mail)+w.Actors[0].Down+b.Drop)%7 == 0 || may {
			if got := Is(p, b, w, e); got != may {
				t.Fatalf("P10.1: Is of %s is %v, with %v, in %s", told([]api.Event{e}), got, b, world.Text(w))
			}
		}
	}
	got := Enabled(p, b, w)
	if !slices.Equal(got, want) {
		t.Fatalf("P10.1: Enabled, with %v, in %s\n got %s\nwant %s", b, world.Text(w), told(got), told(want))
	}
	for i := 1; i < len(got); i++ {
		if !ident.Before(got[i-1], got[i]) {
			t.Fatalf("P10.1: Enabled is not in order, with %v: %s", b, told(got))
		}
	}
}

// The start of a program, as other packages ask.
func TestEnabledAtTheStart(t *testing.T) {
	p := program()
	if flow.Check(p) != api.OK {
		t.Fatal("the program may not be")
	}
	w, _ := world.Start(p)
	wantEnabled(t, "at the start", p, api.Budget{}, w, event(1, id(-1, 0, 0), 0), event(1, id(-1, 1, 0), 0), event(1, id(-1, 2, 0), 0))
	wantEnabled(t, "at the start, with timers", p, budget(0, 0, 1, 0), w, event(1, id(-1, 0, 0), 0), event(1, id(-1, 1, 0), 0), event(1, id(-1, 2, 0), 0), event(4, api.ID{}, 0), event(4, api.ID{}, 3), event(4, api.ID{}, 4))
}

// room is a list with spare room behind it.
func room[T any](l []T) []T { return append(make([]T, 0, len(l)+3), l...) }

func roomyNotes(l []api.Note) []api.Note {
	out := room(l)
	for i := range out {
		out[i].Args = room(out[i].Args)
	}
	return out
}

func roomyProgram() api.Program {
	p := program()
	p.Handlers, p.Actors, p.Boot = room(p.Handlers), room(p.Actors), roomyNotes(p.Boot)
	for i := range p.Handlers {
		p.Handlers[i].Code = room(p.Handlers[i].Code)
	}
	for i := range p.Actors {
		p.Actors[i].Regs = room(p.Actors[i].Regs)
	}
	return p
}

func roomyWorld() api.World {
	w := good()
	w.Actors, w.Mail = room(w.Actors), room(w.Mail)
	for i := range w.Actors {
		w.Actors[i].Regs = room(w.Actors[i].Regs)
	}
	for i := range w.Mail {
		w.Mail[i].Note.Args = room(w.Mail[i].Note.Args)
	}
	return w
}

// whole writes what was handed in with its spare room.
func whole(p api.Program, w api.World) string {
	var out []any
	note := func(n api.Note) { out = append(out, n.To, n.Handler, len(n.Args), n.Args[:cap(n.Args)]) }
	for _, h := range p.Handlers[:cap(p.Handlers)] {
		out = append(out, h.Args, len(h.Code), h.Code[:cap(h.Code)])
	}
	for _, a := range p.Actors[:cap(p.Actors)] {
		out = append(out, len(a.Regs), a.Regs[:cap(a.Regs)], a.Cap, a.Timer, a.Armed)
	}
	for _, l := range w.Actors[:cap(w.Actors)] {
		out = append(out, len(l.Regs), l.Regs[:cap(l.Regs)], l.Armed, l.Down, l.Sent, l.Over)
	}
	for _, m := range w.Mail[:cap(w.Mail)] {
		out = append(out, m.ID)
		note(m.Note)
	}
	for _, n := range p.Boot[:cap(p.Boot)] {
		note(n)
	}
	return fmt.Sprint(append(out, w.Used, p.Fuel)...)
}

func TestNothingHandedInIsChanged(t *testing.T) {
	p, b, w := roomyProgram(), lasting(), roomyWorld()
	was := whole(p, w)
	same := func(what string) {
		t.Helper()
		if whole(p, w) != was || b != lasting() {
			t.Fatalf("P10.2: %s changed what it was given", what)
		}
	}
	for _, e := range candidates(w.Mail) {
		Is(p, b, w, e)
	}
	same("Is")
	May(b)
	same("May")
	Left(b, w)
	same("Left")
	spoil(Enabled(p, b, w))
	same("Enabled, or a change of what it answered,")
	spoil(Enabled(p, budget(-1, 0, 0, 0), w))
	same("Enabled that answers nothing")
	p.Fuel = 0
	was = whole(p, w)
	spoil(Enabled(p, b, w))
	Is(p, b, w, delivered()[0])
	same("what is refused")
}

// spoil changes all of a list, and writes behind its end.
func spoil(l []api.Event) {
	for i := range l {
		l[i] = event(77, id(77, 77, 77), 77)
	}
	_ = append(l, event(78, id(78, 78, 78), 78), event(79, id(79, 79, 79), 79))
}

// spoilAll changes a program and a world.
func spoilAll(p api.Program, w api.World) {
	for i := range p.Handlers {
		p.Handlers[i] = api.Handler{Args: 77}
	}
	for i := range p.Actors {
		p.Actors[i] = api.Actor{Cap: 77}
	}
	for i := range p.Boot {
		p.Boot[i] = note(77, 77)
	}
	for i := range w.Actors {
		w.Actors[i] = api.Local{Down: 77}
	}
	for i := range w.Mail {
		w.Mail[i] = msg(77, 77, 77, note(77, 77))
	}
}

func TestNothingHandedInIsKept(t *testing.T) {
	p, w := roomyProgram(), roomyWorld()
	got := Enabled(p, lasting(), w)
	spoilAll(p, w)
	if told(got) != told(everything()) {
		t.Errorf("P10.2: what Enabled answered changed with what it was given: %s", told(got))
	}
	if again := Enabled(p, lasting(), w); len(again) != 0 {
		t.Errorf("P10.2: Enabled keeps a world that was changed: %s", told(again))
	}
	if Is(p, lasting(), w, delivered()[0]) {
		t.Error("P10.2: Is keeps a world that was changed")
	}
}

func TestEachAnswerIsNew(t *testing.T) {
	p, w := program(), good()
	one, two := Enabled(p, lasting(), w), Enabled(p, lasting(), w)
	spoil(one)
	if told(two) != told(everything()) {
		t.Errorf("P10.2: two answers of Enabled share their memory: %s", told(two))
	}
	wantEnabled(t, "after its answer was changed", p, lasting(), w, everything()...)
}
