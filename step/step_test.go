package step

import (
	"cmp"
	"fmt"
	"math"
	"slices"
	"strings"
	"testing"

	"gavotte/api"
	"gavotte/asm"
	"gavotte/event"
	"gavotte/flow"
	"gavotte/ident"
	"gavotte/vm"
	"gavotte/world"
)

// The handlers of the program that the tests begin with.
const (
	rings   = 0 // sends register 0 to actor 1, stores 1 in register 1, arms again
	stores  = 1 // stores its argument
	quiet   = 2 // does nothing
	spreads = 3 // sends three notes, the last to itself, stores in register 1
	counts  = 4 // counts in register 0
	free    = 5 // quiet, until a test says otherwise
)

func code(s string) []api.Instr {
	if s == "" {
		return nil
	}
	out, e := asm.Parse(strings.ReplaceAll(s, "; ", "\n") + "\n")
	if e != api.OK {
		panic(s)
	}
	return out
}

func handler(args int, s string) api.Handler { return api.Handler{Args: args, Code: code(s)} }

func id(from, n, last int) api.ID { return api.ID{From: from, N: n, Copy: last} }

func note(to, handler int, args ...int) api.Note {
	return api.Note{To: to, Handler: handler, Args: args}
}

func msg(from, n, last int, m api.Note) api.Message {
	return api.Message{ID: id(from, n, last), Note: m}
}

func budget(drop, dup, time, crash int) api.Budget {
	return api.Budget{Drop: drop, Dup: dup, Time: time, Crash: crash}
}

// of is an event of a message, by one of an actor.
func of(kind, from, n, last int) api.Event { return api.Event{Kind: kind, ID: id(from, n, last)} }

func by(kind, who int) api.Event { return api.Event{Kind: kind, Who: who} }

// program is five actors; made anew each time, as tests change it.
func program() api.Program {
	return api.Program{
		Handlers: []api.Handler{
			handler(0, "load 0; push 1; send 1; push 1; store 1; arm"),
			handler(1, "arg 0; store 0"),
			handler(0, ""),
			handler(2, "arg 1; push 1; send 1; push 2; send 2; arg 1; arg 0; self; send 3; arg 0; store 1"),
			handler(0, "load 0; push 1; add; store 0"),
			handler(0, ""),
		},
		Actors: []api.Actor{
			{Regs: []int{4, 5}, Cap: 3, Timer: rings, Armed: true},
			{Regs: []int{6}, Cap: 16, Timer: -1},
			{Cap: 1, Timer: quiet},
			{Regs: []int{7}, Cap: 2, Timer: quiet, Armed: true},
			{Regs: []int{8}, Cap: 0, Timer: counts, Armed: true},
		},
		Boot: []api.Note{note(1, stores, 10), note(2, quiet), note(0, spreads, 1, 2)},
		Fuel: 64,
	}
}

// good is a world of that program: actor 2 is calm, 3 is down, all others run; the mailboxes of 2, 3 and 4 have no room left.
func good() api.World {
	return api.World{
		Actors: []api.Local{
			{Regs: []int{7, 0}, Armed: true, Sent: 5, Over: 1},
			{Regs: []int{-6}, Sent: 1},
			{Over: 2},
			{Regs: []int{math.MinInt}, Armed: true, Down: api.Divided, Sent: 3},
			{Regs: []int{3}, Armed: true},
		},
		Mail: []api.Message{
			msg(-1, 1, 0, note(2, quiet)),
			msg(-1, 2, 0, note(3, stores, 9)),
			msg(0, 0, 0, note(1, stores, 8)),
			msg(0, 4, 2, note(0, spreads, 20, 30)),
			msg(1, 0, 0, note(4, quiet)),
			msg(3, 2, 0, note(3, stores, -1)),
		},
		Used: budget(1, 2, 3, 4),
	}
}

// lasting leaves one of each in the good world.
func lasting() api.Budget { return budget(2, 3, 4, 5) }

// told writes a world whole, not by the package's words; a nil list and an empty one are the same.
func told(w api.World) string {
	var out []string
	for i, l := range w.Actors {
		out = append(out, fmt.Sprint("actor ", i, " ", l.Regs, l.Armed, l.Down, l.Sent, l.Over))
	}
	for _, m := range w.Mail {
		out = append(out, fmt.Sprint("message ", m.ID, " ", m.Note))
	}
	return strings.Join(append(out, fmt.Sprint("used ", w.Used)), "\n")
}

func toldNotes(l []api.Note) string { return fmt.Sprint(len(l), l) }

func nothing() string { return told(api.World{}) }

// gone takes a message out of a world that is expected.
func gone(w *api.World, which api.ID) {
	w.Mail = slices.DeleteFunc(w.Mail, func(m api.Message) bool { return m.ID == which })
}

// come puts messages into a world that is expected.
func come(w *api.World, l ...api.Message) {
	w.Mail = append(w.Mail, l...)
	slices.SortFunc(w.Mail, func(a, b api.Message) int {
		return cmp.Or(cmp.Compare(a.ID.From, b.ID.From), cmp.Compare(a.ID.N, b.ID.N), cmp.Compare(a.ID.Copy, b.ID.Copy))
	})
}

// wantDo does an event in the good world as before makes it; what comes of it should be that world as after makes it, and all else as it was.
func wantDo(t *testing.T, what string, p api.Program, e api.Event, before, after func(w *api.World)) {
	t.Helper()
	w, want := good(), good()
	before(&w)
	before(&want)
	after(&want)
	got, err := Do(p, lasting(), w, e)
	if err != api.OK || told(got) != told(want) {
		t.Errorf("P11.1: Do of %s %v, in the world\n%s\n is %d, and makes\n%s\nnot\n%s", what, e, told(w), err, told(got), told(want))
	}
}

func asItIs(*api.World) {}

func TestDeliver(t *testing.T) {
	p := program()
	wantDo(t, "one that stores", p, of(api.Deliver, 0, 0, 0), asItIs, func(w *api.World) {
		gone(w, id(0, 0, 0))
		w.Actors[1].Regs[0] = 8
	})
	wantDo(t, "one that does nothing", p, of(api.Deliver, -1, 1, 0), asItIs, func(w *api.World) { gone(w, id(-1, 1, 0)) })
	wantDo(t, "one to a Cap of 0", p, of(api.Deliver, 1, 0, 0), asItIs, func(w *api.World) { gone(w, id(1, 0, 0)) })
	wantDo(t, "a copy whose handler sends", p, of(api.Deliver, 0, 4, 2), asItIs, func(w *api.World) {
		gone(w, id(0, 4, 2))
		w.Actors[0].Regs[1], w.Actors[0].Sent, w.Actors[2].Over = 20, 8, 3
		come(w, msg(0, 5, 0, note(1, stores, 30)), msg(0, 7, 0, note(0, spreads, 30, 20)))
	})
	wantDo(t, "one to an actor that has sent nothing", p, of(api.Deliver, 1, 0, 0), func(w *api.World) {
		w.Mail[4].Note = note(1, spreads, 20, 30)
		w.Actors[1].Sent = 1
	}, func(w *api.World) {
		gone(w, id(1, 0, 0))
		w.Actors[1].Sent, w.Actors[2].Over = 4, 3
		come(w, msg(1, 1, 0, note(1, stores, 30)), msg(1, 3, 0, note(1, spreads, 30, 20)))
	})
}

// By the handler of the message, not by that of the timer; and neither timers nor faults are counted.
func TestDeliverAndTimers(t *testing.T) {
	p := program()
	p.Handlers[free] = handler(0, "arm")
	toFree := func(who int, armed bool) func(w *api.World) {
		return func(w *api.World) { w.Mail[2].Note, w.Actors[who].Armed = note(who, free), armed }
	}
	away := func(w *api.World) { gone(w, id(0, 0, 0)) }
	wantDo(t, "one that arms", p, of(api.Deliver, 0, 0, 0), toFree(0, false), func(w *api.World) {
		away(w)
		w.Actors[0].Armed = true
	})
	wantDo(t, "one that arms what is armed", p, of(api.Deliver, 0, 0, 0), toFree(0, true), away)
	wantDo(t, "one that arms where there is no timer", p, of(api.Deliver, 0, 0, 0), toFree(1, false), away)
	p.Handlers[free] = handler(0, "calm")
	wantDo(t, "one that calms", p, of(api.Deliver, 0, 0, 0), toFree(0, true), func(w *api.World) {
		away(w)
		w.Actors[0].Armed = false
	})
	wantDo(t, "one that calms what is calm", p, of(api.Deliver, 0, 0, 0), toFree(2, false), away)
}

// The message that is delivered has left its mailbox when its handler sends.
func TestDeliverMakesRoom(t *testing.T) {
	p := program()
	p.Handlers[free] = handler(0, "push 2; send 2; push 2; send 5")
	wantDo(t, "one that sends two to its own Cap of 1", p, of(api.Deliver, -1, 1, 0), func(w *api.World) { w.Mail[0].Note.Handler = free }, func(w *api.World) {
		gone(w, id(-1, 1, 0))
		w.Actors[2].Sent, w.Actors[2].Over = 2, 3
		come(w, msg(2, 0, 0, note(2, quiet)))
	})
	p.Actors[2].Cap = 2
	wantDo(t, "one that sends two to its own Cap of 2", p, of(api.Deliver, -1, 1, 0), func(w *api.World) { w.Mail[0].Note.Handler = free }, func(w *api.World) {
		gone(w, id(-1, 1, 0))
		w.Actors[2].Sent = 2
		come(w, msg(2, 0, 0, note(2, quiet)), msg(2, 1, 0, note(2, free)))
	})
}

// What is sent to one that is down goes its way, too.
func TestSendsToOneThatIsDown(t *testing.T) {
	p := program()
	p.Handlers[free] = handler(0, "push 3; send 2")
	toFree := func(w *api.World) { w.Mail[0].Note.Handler = free }
	wantDo(t, "one that sends to one that is down, without room", p, of(api.Deliver, -1, 1, 0), toFree, func(w *api.World) {
		gone(w, id(-1, 1, 0))
		w.Actors[2].Sent, w.Actors[3].Over = 1, 1
	})
	p.Actors[3].Cap = 3
	wantDo(t, "one that sends to one that is down", p, of(api.Deliver, -1, 1, 0), toFree, func(w *api.World) {
		gone(w, id(-1, 1, 0))
		w.Actors[2].Sent = 1
		come(w, msg(2, 0, 0, note(3, quiet)))
	})
}

// The greatest Sent and Over that a world may have are taken, and counted on.
func TestTheGreatestCounts(t *testing.T) {
	const most = 1<<41 - 1
	p := program()
	p.Handlers[free] = handler(0, "push 0; send 5; push 2; send 2; push 4; send 2")
	before := func(w *api.World) {
		w.Mail[0].Note.Handler = free
		w.Actors[2].Sent, w.Actors[4].Over = most, most
	}
	after := func(w *api.World) {
		gone(w, id(-1, 1, 0))
		w.Actors[2].Sent, w.Actors[4].Over = most+3, most+1
		come(w, msg(2, most, 0, note(0, free)), msg(2, most+1, 0, note(2, quiet)))
	}
	wantDo(t, "one whose actor sent the most", p, of(api.Deliver, -1, 1, 0), before, after)
	w := good()
	before(&w)
	w, _ = Do(p, lasting(), w, of(api.Deliver, -1, 1, 0))
	if got, e := Do(p, lasting(), w, of(api.Drop, 0, 0, 0)); e != api.ErrNone || told(got) != nothing() {
		t.Errorf("P11.1: Do in a world that may not be is %d, and makes\n%s", e, told(got))
	}
}

func TestDrop(t *testing.T) {
	p := program()
	for _, m := range good().Mail {
		e := api.Event{Kind: api.Drop, ID: m.ID}
		lost := func(w *api.World) {
			gone(w, m.ID)
			w.Used.Drop = 2
		}
		wantDo(t, "any message", p, e, asItIs, lost)
		wantDo(t, "any message, with all others used up", p, e, func(w *api.World) { w.Used.Dup, w.Used.Time, w.Used.Crash = 3, 4, 1000 }, lost)
		wantDo(t, "any message, with all down", p, e, allDown, lost)
	}
}

func allDown(w *api.World) {
	for i := range w.Actors {
		w.Actors[i].Down = 1 + i%4
	}
}

// The copy's number is how many there were, whatever the message's own is.
func TestDup(t *testing.T) {
	p := program()
	for i := range p.Actors {
		p.Actors[i].Cap = 16
	}
	for _, m := range good().Mail {
		e := api.Event{Kind: api.Dup, ID: m.ID}
		doubled := func(w *api.World) {
			w.Used.Dup = 3
			come(w, msg(m.ID.From, m.ID.N, 3, m.Note))
		}
		wantDo(t, "any message", p, e, asItIs, doubled)
		wantDo(t, "any message, with all others used up", p, e, func(w *api.World) { w.Used.Drop, w.Used.Time, w.Used.Crash = 2, 4, 1000 }, doubled)
		wantDo(t, "any message, with all down", p, e, allDown, doubled)
	}
	wantDo(t, "the first of all", p, of(api.Dup, 0, 0, 0), func(w *api.World) {
		gone(w, id(0, 4, 2))
		w.Used.Dup = 0
	}, func(w *api.World) {
		w.Used.Dup = 1
		come(w, msg(0, 0, 1, note(1, stores, 8)))
	})
}

func TestDupWithoutRoom(t *testing.T) {
	p := program()
	over := func(who int) func(w *api.World) {
		return func(w *api.World) {
			w.Used.Dup = 3
			w.Actors[who].Over++
		}
	}
	wantDo(t, "one to a Cap of 1", p, of(api.Dup, -1, 1, 0), asItIs, over(2))
	wantDo(t, "the first of two to a Cap of 2", p, of(api.Dup, -1, 2, 0), asItIs, over(3))
	wantDo(t, "the second of two to a Cap of 2", p, of(api.Dup, 3, 2, 0), asItIs, over(3))
	wantDo(t, "one to a Cap of 0", p, of(api.Dup, 1, 0, 0), asItIs, over(4))
	p.Actors[0].Cap = 1
	wantDo(t, "a copy to a Cap of 1", p, of(api.Dup, 0, 4, 2), asItIs, over(0))
	p.Actors[0].Cap = 2
	wantDo(t, "a copy to a Cap of 2", p, of(api.Dup, 0, 4, 2), asItIs, func(w *api.World) {
		w.Used.Dup = 3
		come(w, msg(0, 4, 3, note(0, spreads, 20, 30)))
	})
}

// A world in which the next copy is there already may not be; one in which the last one is there gets the next.
func TestDupOfAnIDThatIsThere(t *testing.T) {
	w := good()
	come(&w, msg(0, 0, 3, note(1, stores, 8)))
	if got, e := Do(program(), lasting(), w, of(api.Dup, 0, 0, 0)); e != api.ErrNone || told(got) != nothing() {
		t.Errorf("P11.1: Do of Dup, where the next copy is there, is %d, and makes\n%s", e, told(got))
	}
	wantDo(t, "one whose last copies are there", program(), of(api.Dup, 0, 0, 1), func(w *api.World) {
		come(w, msg(0, 0, 1, note(1, stores, 8)), msg(0, 0, 2, note(0, quiet)))
	}, func(w *api.World) {
		w.Used.Dup = 3
		come(w, msg(0, 0, 3, note(1, stores, 8)))
	})
}

// Time and again of one message, and of its copies: each copy has a number of its own.
func TestDupsOfDups(t *testing.T) {
	p, b := program(), budget(0, 4, 0, 0)
	w, n, e := Run(p, b, []api.Event{of(api.Dup, -1, 0, 0), of(api.Dup, -1, 0, 0), of(api.Dup, -1, 0, 1), of(api.Dup, -1, 2, 0)})
	want, _ := world.Start(p)
	want.Used.Dup = 4
	come(&want, msg(-1, 0, 1, note(1, stores, 10)), msg(-1, 0, 2, note(1, stores, 10)), msg(-1, 0, 3, note(1, stores, 10)), msg(-1, 2, 4, note(0, spreads, 1, 2)))
	if n != 4 || e != api.OK || told(w) != told(want) {
		t.Errorf("P11.1: four Dups are %d, %d, and make\n%s\nnot\n%s", n, e, told(w), told(want))
	}
}

func TestTime(t *testing.T) {
	p := program()
	wantDo(t, "one that arms itself again", p, by(api.Time, 0), asItIs, func(w *api.World) {
		w.Used.Time = 4
		w.Actors[0].Regs[1], w.Actors[0].Sent = 1, 6
		come(w, msg(0, 5, 0, note(1, stores, 7)))
	})
	wantDo(t, "one that does not arm itself again", p, by(api.Time, 4), asItIs, func(w *api.World) {
		w.Used.Time = 4
		w.Actors[4].Regs[0], w.Actors[4].Armed = 4, false
	})
	wantDo(t, "one that was armed on the way", p, by(api.Time, 2), func(w *api.World) { w.Actors[2].Armed = true }, func(w *api.World) {
		w.Used.Time = 4
		w.Actors[2].Armed = false
	})
	wantDo(t, "one, with all others used up", p, by(api.Time, 4), func(w *api.World) { w.Used.Drop, w.Used.Dup, w.Used.Crash = 9, 9, 9 }, func(w *api.World) {
		w.Used.Time = 4
		w.Actors[4].Regs[0], w.Actors[4].Armed = 4, false
	})
	p.Actors[4].Timer = free
	for _, s := range []string{"calm", "arm; calm", "end; arm"} {
		p.Handlers[free] = handler(0, s)
		wantDo(t, "one that runs "+s, p, by(api.Time, 4), asItIs, func(w *api.World) {
			w.Used.Time = 4
			w.Actors[4].Armed = false
		})
	}
	p.Handlers[free] = handler(0, "calm; arm")
	wantDo(t, "one that calms and arms", p, by(api.Time, 4), asItIs, func(w *api.World) { w.Used.Time = 4 })
}

func TestCrash(t *testing.T) {
	p := program()
	for _, who := range []int{0, 1, 2, 4} {
		fallen := func(w *api.World) {
			w.Used.Crash = 5
			w.Actors[who].Down = api.Crashed
		}
		wantDo(t, "one that runs", p, by(api.Crash, who), asItIs, fallen)
		wantDo(t, "one that runs, with all others used up", p, by(api.Crash, who), func(w *api.World) { w.Used.Drop, w.Used.Dup, w.Used.Time = 9, 9, 9 }, fallen)
		wantDo(t, "one that runs, with all others down", p, by(api.Crash, who), func(w *api.World) {
			allDown(w)
			w.Actors[who].Down = api.Runs
		}, fallen)
	}
}

// Its messages may be lost and doubled, but not delivered; what it sent ahead is delivered; its timer is silent.
func TestBehindACrash(t *testing.T) {
	p, b := program(), budget(9, 9, 9, 9)
	w, _ := Do(p, b, good(), by(api.Crash, 0))
	for _, e := range []api.Event{of(api.Deliver, 0, 4, 2), by(api.Time, 0), by(api.Crash, 0)} {
		if got, err := Do(p, b, w, e); err != api.ErrNone || told(got) != nothing() {
			t.Errorf("P11.1: Do of %v behind a crash is %d, and makes\n%s", e, err, told(got))
		}
		if l := Notes(p, w, e); len(l) != 0 {
			t.Errorf("P11.2: Notes of %v behind a crash are %v", e, l)
		}
	}
	crashed := func(w *api.World) { w.Actors[0].Down = api.Crashed }
	wantDo(t, "a message to one that crashed", p, of(api.Drop, 0, 4, 2), crashed, func(w *api.World) {
		gone(w, id(0, 4, 2))
		w.Used.Drop = 2
	})
	wantDo(t, "a message to one that crashed", p, of(api.Dup, 0, 4, 2), crashed, func(w *api.World) {
		w.Used.Dup = 3
		come(w, msg(0, 4, 3, note(0, spreads, 20, 30)))
	})
	wantDo(t, "a message of one that crashed", p, of(api.Deliver, 0, 0, 0), crashed, func(w *api.World) {
		gone(w, id(0, 0, 0))
		w.Actors[1].Regs[0] = 8
	})
}

// fall is code by which an actor goes down.
type fall struct {
	code string
	down int
}

func falls() []fall {
	return []fall{
		{"push 1; push 0; div; pop", api.Divided},
		{"push 1; push 0; mod; pop", api.Divided},
		{"push -1; send 2", api.Lost},
		{"push 5; send 2", api.Lost},
		{"jump 6", api.Starved}, // to itself, as falling has six ahead of it
	}
}

// falling stores, sends and arms or calms ahead of the fall.
func falling(turn string, f fall) api.Handler {
	return handler(0, "push 99; store 0; push 98; push 1; send 1; "+turn+"; "+f.code)
}

// What was done ahead of the fall is taken back, but for what is there without the handler: the message is gone, the timer calm and counted.
func TestFallsOfHandlers(t *testing.T) {
	for _, f := range falls() {
		for _, turn := range []string{"arm", "calm"} {
			p := program()
			p.Handlers[free] = falling(turn, f)
			p.Actors[4].Timer = free
			for _, armed := range []bool{false, true} {
				wantDo(t, turn+"; "+f.code, p, of(api.Deliver, 1, 0, 0), func(w *api.World) {
					w.Mail[4].Note, w.Actors[4].Armed, w.Actors[4].Sent = note(4, free), armed, 7
				}, func(w *api.World) {
					gone(w, id(1, 0, 0))
					w.Actors[4].Down = f.down
				})
			}
			wantDo(t, "the timer's "+turn+"; "+f.code, p, by(api.Time, 4), func(w *api.World) { w.Actors[4].Sent = 7 }, func(w *api.World) {
				w.Used.Time = 4
				w.Actors[4].Armed, w.Actors[4].Down = false, f.down
			})
			for _, e := range []api.Event{of(api.Deliver, 1, 0, 0), by(api.Time, 4)} {
				w := good()
				w.Mail[4].Note.Handler = free
				if l := Notes(p, w, e); len(l) != 0 {
					t.Errorf("P11.2: Notes of a handler that falls by %s are %v", f.code, l)
				}
			}
		}
	}
}

// A handler that ends with its last fuel sends; with one less it falls.
func TestTheLastFuel(t *testing.T) {
	p := program()
	p.Fuel = 6 // as many as the ringing timer takes
	w, e := Do(p, lasting(), good(), by(api.Time, 0))
	if e != api.OK || w.Actors[0].Down != api.Runs || len(w.Mail) != 7 {
		t.Errorf("P11.1: Do with just enough fuel is %d, and makes\n%s", e, told(w))
	}
	p.Fuel = 5
	wantDo(t, "one with a step too few", p, by(api.Time, 0), asItIs, func(w *api.World) {
		w.Used.Time = 4
		w.Actors[0].Armed, w.Actors[0].Down = false, api.Starved
	})
}

// candidates are events of all kinds, of all messages of a world and some more, and of all actors and some more.
func candidates(w api.World) []api.Event {
	var out []api.Event
	for kind := -1; kind <= 7; kind++ {
		for who := -1; who <= len(w.Actors); who++ {
			out = append(out, by(kind, who))
		}
		for _, m := range append(slices.Clone(w.Mail), msg(-1, 15, 0, note(0, 0)), msg(0, 99, 0, note(0, 0)), msg(7, 0, 0, note(0, 0))) {
			out = append(out, api.Event{Kind: kind, ID: m.ID}, api.Event{Kind: kind, ID: m.ID, Who: 1})
		}
	}
	return append(out, by(api.Time, math.MinInt), by(api.Crash, math.MaxInt), api.Event{Kind: math.MaxInt, ID: id(0, 0, 0)}, api.Event{Kind: math.MinInt})
}

// wantRefused tries all candidates; none may be done.
func wantRefused(t *testing.T, what string, p api.Program, b api.Budget, w api.World) {
	t.Helper()
	for _, e := range candidates(good()) {
		if got, err := Do(p, b, w, e); err != api.ErrNone || told(got) != nothing() {
			t.Errorf("P11.1: Do of %v, with %s, is %d, and makes\n%s", e, what, err, told(got))
		}
	}
}

func TestDoOfWhatMayNotHappen(t *testing.T) {
	p := program()
	done := 0
	for _, b := range []api.Budget{{}, lasting(), good().Used, budget(1000, 1000, 1000, 1000), budget(2, 0, 4, 0)} {
		for _, e := range candidates(good()) {
			got, err := Do(p, b, good(), e)
			if event.Is(p, b, good(), e) {
				done++
				if err != api.OK {
					t.Errorf("P11.1: Do of %v, with %v, is %d", e, b, err)
				}
			} else if err != api.ErrNone || told(got) != nothing() {
				t.Errorf("P11.1: Do of %v, with %v, is %d, and makes\n%s", e, b, err, told(got))
			}
		}
	}
	if done < 50 {
		t.Errorf("%d events that may happen are too few to tell", done)
	}
	for _, b := range []api.Budget{budget(-1, 0, 0, 0), budget(9, -1, 9, 9), budget(9, 9, 1001, 9), budget(9, 9, 9, math.MinInt), budget(math.MaxInt, 9, 9, 9)} {
		wantRefused(t, fmt.Sprint(b), p, b, good())
	}
	wantRefused(t, "nothing at all", api.Program{}, api.Budget{}, api.World{})
	wantRefused(t, "no world", p, lasting(), api.World{})
	for what, w := range brokenWorlds() {
		wantRefused(t, what, p, lasting(), w)
	}
	for what, broken := range brokenPrograms() {
		wantRefused(t, what, broken, lasting(), good())
	}
}

// brokenWorlds may not be, each by one thing.
func brokenWorlds() map[string]api.World {
	all := map[string]api.World{}
	add := func(what string, do func(w *api.World)) {
		w := good()
		do(&w)
		all[what] = w
	}
	add("an actor more", func(w *api.World) { w.Actors = append(w.Actors, api.Local{}) })
	add("an actor less", func(w *api.World) { w.Actors = w.Actors[:4] })
	add("a register more", func(w *api.World) { w.Actors[2].Regs = []int{1} })
	add("a Down of 5", func(w *api.World) { w.Actors[3].Down = 5 })
	add("an Over below 0", func(w *api.World) { w.Actors[3].Over = -1 })
	add("a Sent above the most", func(w *api.World) { w.Actors[3].Sent = 1 << 41 })
	add("armed without a timer", func(w *api.World) { w.Actors[1].Armed = true })
	add("two messages turned", func(w *api.World) { w.Mail[0], w.Mail[1] = w.Mail[1], w.Mail[0] })
	add("a message to nobody", func(w *api.World) { w.Mail[5].Note.To = 5 })
	add("a message with an argument less", func(w *api.World) { w.Mail[5].Note.Args = nil })
	add("a message of no handler", func(w *api.World) { w.Mail[5].Note.Handler = 6 })
	add("a Copy that was not made", func(w *api.World) { w.Mail[5].ID.Copy = 3 })
	add("a message that was not sent", func(w *api.World) { w.Mail[5].ID.N = 3 })
	for place := range 4 {
		add(fmt.Sprint("less than none used at place ", place), func(w *api.World) {
			*[]*int{&w.Used.Drop, &w.Used.Dup, &w.Used.Time, &w.Used.Crash}[place] = -1
		})
	}
	add("no copies, and less than none doubled", func(w *api.World) {
		gone(w, id(0, 4, 2))
		w.Used.Dup = -1
	})
	add("the least number of timers used", func(w *api.World) { w.Used.Time = math.MinInt })
	return all
}

// brokenPrograms may not be, each by one thing; the good world would fit them.
func brokenPrograms() map[string]api.Program {
	all := map[string]api.Program{}
	add := func(what string, do func(p *api.Program)) {
		p := program()
		do(&p)
		all[what] = p
	}
	add("no fuel", func(p *api.Program) { p.Fuel = 0 })
	add("too much fuel", func(p *api.Program) { p.Fuel = 257 })
	add("seventeen notes", func(p *api.Program) { p.Boot = make([]api.Note, 17) })
	add("a note to nobody", func(p *api.Program) { p.Boot[1].To = 5 })
	add("an op that is none", func(p *api.Program) { p.Handlers[free].Code = []api.Instr{{Op: 26}} })
	add("a jump out of the code", func(p *api.Program) { p.Handlers[free] = handler(0, "jump 2") })
	add("a register that is none", func(p *api.Program) { p.Handlers[free] = handler(0, "load 8") })
	add("too few on the stack", func(p *api.Program) { p.Handlers[free] = handler(0, "pop") })
	add("two depths", func(p *api.Program) { p.Handlers[free] = handler(0, "push 1; jump 0") })
	return all
}

func wantRun(t *testing.T, what string, p api.Program, b api.Budget, l []api.Event, want api.World, done int, err api.Errno) {
	t.Helper()
	got, n, e := Run(p, b, l)
	if n != done || e != err || told(got) != told(want) {
		t.Errorf("P11.2: Run of %s is %d, %d, not %d, %d, and makes\n%s\nnot\n%s", what, n, e, done, err, told(got), told(want))
	}
}

func TestRunOfNone(t *testing.T) {
	p := program()
	start, _ := world.Start(p)
	if len(start.Mail) != 3 {
		t.Fatalf("the start is\n%s", told(start))
	}
	for _, l := range [][]api.Event{nil, {}} {
		wantRun(t, "no events", p, lasting(), l, start, 0, api.OK)
		wantRun(t, "no events, without a budget", p, api.Budget{}, l, start, 0, api.OK)
		wantRun(t, "no events, with a budget that may not be", p, budget(-1, 0, 0, 1001), l, start, 0, api.OK)
	}
}

// many is a schedule of the program with a budget of one of each, and the world behind it.
func many() ([]api.Event, api.World) {
	l := []api.Event{
		by(api.Time, 0),           // 0.0.0 to 1, and armed again
		of(api.Deliver, -1, 2, 0), // 0.1.0 to 1, 0.2.0 to 2 (Over), 0.3.0 to 0
		of(api.Dup, 0, 3, 0),      // 0.3.1
		of(api.Deliver, 0, 1, 0),  // actor 1 has 2
		of(api.Drop, -1, 0, 0),    // nobody has 10
		of(api.Deliver, 0, 3, 1),  // 0.4.0 to 1, 0.5.0 to 2 (Over), 0.6.0 to 0
		by(api.Crash, 2),          // -1.1.0 stays
		of(api.Deliver, 0, 0, 0),  // actor 1 has 4
		of(api.Deliver, 0, 3, 0),  // 0.7.0 to 1, 0.8.0 to 2 (Over), 0.9.0 to 0
		of(api.Deliver, 0, 4, 0),  // actor 1 has 1
	}
	want := api.World{
		Actors: []api.Local{
			{Regs: []int{4, 2}, Armed: true, Sent: 10},
			{Regs: []int{1}},
			{Down: api.Crashed, Over: 3},
			{Regs: []int{7}, Armed: true},
			{Regs: []int{8}, Armed: true},
		},
		Mail: []api.Message{
			msg(-1, 1, 0, note(2, quiet)),
			msg(0, 6, 0, note(0, spreads, 1, 2)),
			msg(0, 7, 0, note(1, stores, 1)),
			msg(0, 9, 0, note(0, spreads, 1, 2)),
		},
		Used: budget(1, 1, 1, 1),
	}
	return l, want
}

func TestRunOfMany(t *testing.T) {
	l, want := many()
	wantRun(t, "many", program(), budget(1, 1, 1, 1), l, want, len(l), api.OK)
	wantRun(t, "many, with more than they use", program(), budget(1000, 1000, 1000, 1000), l, want, len(l), api.OK)
	w, _ := world.Start(program())
	for i, e := range l {
		wantRun(t, fmt.Sprint("the first ", i), program(), budget(1, 1, 1, 1), l[:i], w, i, api.OK)
		w, _ = Do(program(), budget(1, 1, 1, 1), w, e)
	}
}

// More events than a schedule has elsewhere: 2000 rounds of one actor with itself.
func TestRunOfVeryMany(t *testing.T) {
	p := api.Program{Handlers: []api.Handler{handler(0, "load 0; push 1; add; store 0; self; send 0")}, Actors: []api.Actor{{Regs: []int{0}, Cap: 1, Timer: -1}}, Boot: []api.Note{note(0, 0)}, Fuel: 9}
	l := []api.Event{of(api.Deliver, -1, 0, 0)}
	for n := range 2000 {
		l = append(l, of(api.Deliver, 0, n, 0))
	}
	want := api.World{Actors: []api.Local{{Regs: []int{2001}, Sent: 2001}}, Mail: []api.Message{msg(0, 2000, 0, note(0, 0))}}
	wantRun(t, "2001 events", p, api.Budget{}, l, want, 2001, api.OK)
}

// Each fault counts, wherever in the list it stands: with one less in the budget, Run stops at it.
func TestRunStops(t *testing.T) {
	l, _ := many()
	for _, r := range []struct {
		b  api.Budget
		at int
	}{{budget(1, 1, 0, 1), 0}, {budget(1, 0, 1, 1), 2}, {budget(0, 1, 1, 1), 4}, {budget(1, 1, 1, 0), 6}, {budget(0, 0, 0, 0), 0}, {budget(1, 1, 1, -1), 0}} {
		wantRun(t, fmt.Sprint("many, with ", r.b), program(), r.b, l, api.World{}, r.at, api.ErrNone)
	}
	for _, bad := range []api.Event{{}, of(api.Deliver, 7, 7, 7), of(api.Drop, 0, 99, 0), of(6, -1, 1, 0), by(api.Time, 1), by(api.Crash, 5), {Kind: api.Deliver, ID: id(-1, 1, 0), Who: 1}} {
		for at := range len(l) + 1 {
			wantRun(t, fmt.Sprintf("many, with %v at place %d", bad, at), program(), budget(1, 1, 1, 1), slices.Insert(slices.Clone(l), at, bad), api.World{}, at, api.ErrNone)
		}
		wantRun(t, "one that may not be alone", program(), budget(1, 1, 1, 1), []api.Event{bad}, api.World{}, 0, api.ErrNone)
	}
	twice := []api.Event{of(api.Deliver, -1, 0, 0), of(api.Deliver, -1, 0, 0), of(api.Deliver, -1, 2, 0)}
	wantRun(t, "one message, delivered twice", program(), lasting(), twice, api.World{}, 1, api.ErrNone)
}

func TestRunOfProgramsThatMayNotBe(t *testing.T) {
	l, _ := many()
	seen := map[api.Errno]bool{}
	for what, p := range brokenPrograms() {
		e := flow.Check(p)
		wantRun(t, "many, with "+what, p, budget(1, 1, 1, 1), l, api.World{}, 0, e)
		wantRun(t, "none, with "+what, p, budget(-1, 0, 0, 0), nil, api.World{}, 0, e)
		seen[e] = true
	}
	wantRun(t, "nothing", api.Program{}, api.Budget{}, nil, api.World{}, 0, api.ErrArg)
	for _, e := range []api.Errno{api.ErrArg, api.ErrBig, api.ErrJump, api.ErrReg, api.ErrWho, api.ErrStack} {
		if !seen[e] {
			t.Errorf("no program is refused by %d", e)
		}
	}
}

func wantNotes(t *testing.T, what string, p api.Program, w api.World, e api.Event, want ...api.Note) {
	t.Helper()
	if got := Notes(p, w, e); toldNotes(got) != toldNotes(want) {
		t.Errorf("P11.2: Notes of %s %v are %s, not %s", what, e, toldNotes(got), toldNotes(want))
	}
}

// spread is what the delivery of 0.4.2 sends in the good world, and ringing what actor 0's timer sends.
func spread() []api.Note {
	return []api.Note{note(1, stores, 30), note(2, quiet), note(0, spreads, 30, 20)}
}

func ringing() []api.Note { return []api.Note{note(1, stores, 7)} }

func TestNotes(t *testing.T) {
	p, w := program(), good()
	wantNotes(t, "a delivery", p, w, of(api.Deliver, 0, 4, 2), spread()...)
	wantNotes(t, "a timer", p, w, by(api.Time, 0), ringing()...)
	wantNotes(t, "a delivery that sends nothing", p, w, of(api.Deliver, 0, 0, 0))
	wantNotes(t, "a timer that sends nothing", p, w, by(api.Time, 4))
	wantNotes(t, "a delivery to one that is down", p, w, of(api.Deliver, -1, 2, 0))
	for _, m := range w.Mail {
		wantNotes(t, "a loss", p, w, api.Event{Kind: api.Drop, ID: m.ID})
		wantNotes(t, "a doubling", p, w, api.Event{Kind: api.Dup, ID: m.ID})
	}
	for who := range w.Actors {
		wantNotes(t, "a crash", p, w, by(api.Crash, who))
	}
	wantNotes(t, "a timer that is calm", p, w, by(api.Time, 2))
	w.Actors[0].Armed = false
	wantNotes(t, "a timer that is calm", p, w, by(api.Time, 0))
	wantNotes(t, "a delivery to one that is calm", p, w, of(api.Deliver, 0, 4, 2), spread()...)
	w.Actors[0].Armed, w.Actors[0].Down = true, api.Lost
	wantNotes(t, "a timer of one that is down", p, w, by(api.Time, 0))
	wantNotes(t, "a delivery to one that is down", p, w, of(api.Deliver, 0, 4, 2))
}

// Only the deliveries and timers that send something have notes, of all events that there might be.
func TestNotesOfAllElse(t *testing.T) {
	p, w := program(), good()
	for _, e := range candidates(w) {
		switch e {
		case of(api.Deliver, 0, 4, 2):
			wantNotes(t, "a delivery", p, w, e, spread()...)
		case by(api.Time, 0):
			wantNotes(t, "a timer", p, w, e, ringing()...)
		default:
			wantNotes(t, "any other", p, w, e)
		}
	}
	for _, other := range []api.ID{id(-1, 1, 0), id(0, 4, 2), id(0, 0, 1), id(0, 1, 0), id(1, 0, 0)} {
		wantNotes(t, "a timer with an ID", p, w, api.Event{Kind: api.Time, ID: other})
	}
	for _, who := range []int{-1, 1, 5, math.MinInt, math.MaxInt} {
		wantNotes(t, "a delivery with a Who", p, w, api.Event{Kind: api.Deliver, ID: id(0, 4, 2), Who: who})
	}
	for _, other := range []api.ID{id(0, 4, 0), id(0, 4, 1), id(0, 4, 3), id(0, 3, 2), id(1, 4, 2)} {
		wantNotes(t, "a message that is not there", p, w, api.Event{Kind: api.Deliver, ID: other})
	}
}

// However much was used: no budget would let the timer ring, but none is asked.
func TestNotesAskNoBudget(t *testing.T) {
	p := program()
	for _, used := range []api.Budget{{Dup: 2}, budget(0, 2, 1, 0), budget(9, 9, 999, 9), budget(1000, 1000, 1000, 1000), budget(1001, 1001, 1001, 1001), budget(math.MaxInt, math.MaxInt, math.MaxInt, math.MaxInt)} {
		w := good()
		w.Used = used
		wantNotes(t, "a delivery, with any Used,", p, w, of(api.Deliver, 0, 4, 2), spread()...)
		wantNotes(t, "a timer, with any Used,", p, w, by(api.Time, 0), ringing()...)
		wantNotes(t, "a timer that sends nothing, with any Used,", p, w, by(api.Time, 4))
	}
}

// What finds no room is sent all the same.
func TestNotesWithoutRoom(t *testing.T) {
	p, w := program(), good()
	for i := range p.Actors {
		p.Actors[i].Cap = 0
	}
	wantNotes(t, "a delivery, where nobody has room,", p, w, of(api.Deliver, 0, 4, 2), spread()...)
	wantNotes(t, "a timer, where nobody has room,", p, w, by(api.Time, 0), ringing()...)
}

func TestNotesOfWhatMayNotBe(t *testing.T) {
	for what, w := range brokenWorlds() {
		for _, e := range candidates(good()) {
			wantNotes(t, what, program(), w, e)
		}
	}
	for what, p := range brokenPrograms() {
		for _, e := range candidates(good()) {
			wantNotes(t, what, p, good(), e)
		}
	}
	wantNotes(t, "nothing at all", api.Program{}, api.World{}, api.Event{})
	wantNotes(t, "no world", program(), api.World{}, by(api.Time, 0))
	wantNotes(t, "no program", api.Program{}, good(), by(api.Time, 0))
}

// plain is a world in other shape: the messages in no order.
type plain struct {
	actors []api.Local
	mail   map[api.ID]api.Note
	used   map[int]int // by kind
}

func plainOf(w api.World) plain {
	out := plain{mail: map[api.ID]api.Note{}, used: map[int]int{api.Drop: w.Used.Drop, api.Dup: w.Used.Dup, api.Time: w.Used.Time, api.Crash: w.Used.Crash}}
	out.actors = append(out.actors, w.Actors...)
	for _, m := range w.Mail {
		out.mail[m.ID] = m.Note
	}
	return out
}

func (w plain) world() api.World {
	out := api.World{Actors: w.actors, Used: budget(w.used[api.Drop], w.used[api.Dup], w.used[api.Time], w.used[api.Crash])}
	for which, n := range w.mail {
		out.Mail = append(out.Mail, api.Message{ID: which, Note: n})
	}
	come(&out)
	return out
}

func (w plain) put(p api.Program, which api.ID, n api.Note) {
	there := 0
	for _, m := range w.mail {
		if m.To == n.To {
			there++
		}
	}
	if _, known := w.mail[which]; known || there >= p.Actors[n.To].Cap {
		w.actors[n.To].Over++
		return
	}
	w.mail[which] = n
}

// byWords is what an event that may happen makes of a world, and the notes that are sent, by the document's words, one after the other.
func byWords(p api.Program, from api.World, e api.Event) (api.World, []api.Note) {
	w := plainOf(from)
	if e.Kind != api.Deliver {
		w.used[e.Kind]++
	}
	who, n := e.Who, w.mail[e.ID]
	switch e.Kind {
	case api.Crash:
		w.actors[who].Down = api.Crashed
		return w.world(), nil
	case api.Drop:
		delete(w.mail, e.ID)
		return w.world(), nil
	case api.Dup:
		w.put(p, id(e.ID.From, e.ID.N, w.used[api.Dup]), n)
		return w.world(), nil
	case api.Time:
		w.actors[who].Armed = false
		n = note(who, p.Actors[who].Timer)
	case api.Deliver:
		delete(w.mail, e.ID)
		who = n.To
	}
	r := vm.Run(p, who, w.actors[who], n.Handler, n.Args)
	w.actors[who] = r.Local
	for i, sent := range r.Notes {
		w.put(p, id(who, r.Local.Sent-len(r.Notes)+i, 0), sent)
	}
	return w.world(), r.Notes
}

// small are programs whose worlds are soon gone through: of each a budget, and how many events deep.
func small() []struct {
	p     api.Program
	b     api.Budget
	depth int
} {
	busy := program()
	busy.Actors[2].Timer, busy.Actors[2].Armed = counts, true
	tight := program()
	for i := range tight.Actors {
		tight.Actors[i].Cap = 1
	}
	down := program()
	for i, f := range falls() {
		down.Handlers = append(down.Handlers, falling("calm", f))
		down.Actors[i].Timer, down.Actors[i].Armed = free+1+i, true
		down.Boot = append(down.Boot, note(4-i, free+1+i))
	}
	down.Actors[4].Cap = 9
	return []struct {
		p     api.Program
		b     api.Budget
		depth int
	}{{busy, budget(1, 2, 2, 1), 4}, {tight, budget(0, 3, 1, 0), 6}, {down, budget(1, 1, 1, 1), 3}, {program(), api.Budget{}, 9}}
}

// place is a world, and a schedule that leads there.
type place struct {
	way []api.Event
	w   api.World
}

// All worlds that a schedule may lead to, up to a depth, held against the document's words, event by event.
func TestDoOfAll(t *testing.T) {
	count := 0
	for _, s := range small() {
		start, _ := world.Start(s.p)
		seen := map[string]bool{told(start): true}
		for places := []place{{nil, start}}; len(places) > 0; places = places[1:] {
			at := places[0]
			wantRun(t, "a way there", s.p, s.b, at.way, at.w, len(at.way), api.OK)
			for _, e := range event.Enabled(s.p, s.b, at.w) {
				next := wantByWords(t, s.p, s.b, at.w, e)
				count++
				if k := told(next); !seen[k] && len(at.way)+1 < s.depth {
					seen[k] = true
					places = append(places, place{append(slices.Clone(at.way), e), next})
				}
			}
		}
	}
	if count < 30000 {
		t.Errorf("%d are too few to tell", count)
	}
}

func wantByWords(t *testing.T, p api.Program, b api.Budget, w api.World, e api.Event) api.World {
	t.Helper()
	got, err := Do(p, b, w, e)
	want, notes := byWords(p, w, e)
	if err != api.OK || told(got) != told(want) {
		t.Fatalf("P11.1: Do of %s is %d, in\n%s\nand makes\n%s\nnot\n%s", ident.Name(e), err, told(w), told(got), told(want))
	}
	if l := Notes(p, w, e); toldNotes(l) != toldNotes(notes) {
		t.Fatalf("P11.2: Notes of %s are %s, not %s, in\n%s", ident.Name(e), toldNotes(l), toldNotes(notes), told(w))
	}
	if !world.Check(p, got) {
		t.Fatalf("P11.1: Do of %s makes a world that may not be:\n%s", ident.Name(e), told(got))
	}
	return got
}

func TestTheSameEventsMakeTheSameWorld(t *testing.T) {
	l, want := many()
	for range 50 {
		wantRun(t, "the same events", program(), budget(1, 1, 1, 1), l, want, len(l), api.OK)
	}
}

// room is a list with spare room behind it.
func room[T any](l []T) []T { return append(make([]T, 0, len(l)+3), l...) }

func roomyNotes(l []api.Note) []api.Note {
	out := room(l)
	for i := range out {
		out[i].Args = room(out[i].Args)
	}
	return out
}

func roomyProgram() api.Program {
	p := program()
	p.Handlers, p.Actors, p.Boot = room(p.Handlers), room(p.Actors), roomyNotes(p.Boot)
	for i := range p.Handlers {
		p.Handlers[i].Code = room(p.Handlers[i].Code)
	}
	for i := range p.Actors {
		p.Actors[i].Regs = room(p.Actors[i].Regs)
	}
	return p
}

func roomyWorld() api.World {
	w := good()
	w.Actors, w.Mail = room(w.Actors), room(w.Mail)
	for i := range w.Actors {
		w.Actors[i].Regs = room(w.Actors[i].Regs)
	}
	for i := range w.Mail {
		w.Mail[i].Note.Args = room(w.Mail[i].Note.Args)
	}
	return w
}

func roomyEvents() []api.Event {
	l, _ := many()
	return room(l)
}

// whole writes all of it, with the spare room of each list.
func whole(p api.Program, w api.World, l []api.Event) string {
	out := []any{p.Fuel, w.Used, len(l), l[:cap(l)]}
	for _, h := range p.Handlers[:cap(p.Handlers)] {
		out = append(out, h.Args, len(h.Code), h.Code[:cap(h.Code)])
	}
	for _, a := range p.Actors[:cap(p.Actors)] {
		out = append(out, a, a.Regs[:cap(a.Regs)])
	}
	for _, n := range p.Boot[:cap(p.Boot)] {
		out = append(out, n, n.Args[:cap(n.Args)])
	}
	for _, a := range w.Actors[:cap(w.Actors)] {
		out = append(out, a, a.Regs[:cap(a.Regs)])
	}
	for _, m := range w.Mail[:cap(w.Mail)] {
		out = append(out, m, m.Note.Args[:cap(m.Note.Args)])
	}
	return fmt.Sprint(out...)
}

func TestNothingHandedInIsChanged(t *testing.T) {
	p, w, l, b := roomyProgram(), roomyWorld(), roomyEvents(), lasting()
	was := whole(p, w, l)
	same := func(what string) {
		t.Helper()
		if whole(p, w, l) != was || b != lasting() {
			t.Fatalf("P11.3: %s changed what it was given", what)
		}
	}
	for _, e := range candidates(good()) {
		Do(p, b, w, e)
		same("Do of " + fmt.Sprint(e))
		Notes(p, w, e)
		same("Notes of " + fmt.Sprint(e))
	}
	Run(p, b, l)
	same("Run")
	Run(p, api.Budget{}, l)
	same("Run that stops")
	p.Fuel = 0
	was = whole(p, w, l)
	Do(p, b, w, of(api.Deliver, 0, 4, 2))
	Run(p, b, l)
	Notes(p, w, of(api.Deliver, 0, 4, 2))
	same("what is refused")
}

// lists are all that were handed in, or answered, sorted out by what they hold.
type lists struct {
	numbers [][]int
	codes   [][]api.Instr
	locals  [][]api.Local
	mails   [][]api.Message
	notes   [][]api.Note
	events  [][]api.Event
}

func (l *lists) addNotes(notes []api.Note) {
	l.notes = append(l.notes, notes)
	for _, n := range notes {
		l.numbers = append(l.numbers, n.Args)
	}
}

func (l *lists) addWorld(w api.World) {
	l.locals, l.mails = append(l.locals, w.Actors), append(l.mails, w.Mail)
	for _, a := range w.Actors {
		l.numbers = append(l.numbers, a.Regs)
	}
	for _, m := range w.Mail {
		l.numbers = append(l.numbers, m.Note.Args)
	}
}

func (l *lists) addProgram(p api.Program) {
	l.addNotes(p.Boot)
	for _, h := range p.Handlers {
		l.codes = append(l.codes, h.Code)
	}
	for _, a := range p.Actors {
		l.numbers = append(l.numbers, a.Regs)
	}
}

// apart marks each list with its own place, to the end of its room, and looks whether all marks are still there.
func apart[T any](t *testing.T, what string, all [][]T, place func(x *T) *int) {
	t.Helper()
	for i, l := range all {
		for k := range l[:cap(l)] {
			*place(&l[:cap(l)][k]) = i
		}
	}
	for i, l := range all {
		for k := range l[:cap(l)] {
			if *place(&l[:cap(l)][k]) != i {
				t.Errorf("P11.3: %s answers a list that stands in the memory of another one", what)
				return
			}
		}
	}
}

func (l *lists) wantApart(t *testing.T, what string) {
	t.Helper()
	apart(t, what, l.numbers, func(x *int) *int { return x })
	apart(t, what, l.codes, func(x *api.Instr) *int { return &x.A })
	apart(t, what, l.locals, func(x *api.Local) *int { return &x.Over })
	apart(t, what, l.mails, func(x *api.Message) *int { return &x.ID.N })
	apart(t, what, l.notes, func(x *api.Note) *int { return &x.To })
	apart(t, what, l.events, func(x *api.Event) *int { return &x.Who })
}

// All that was handed in, and two answers to it: each list stands by itself, so that none changes with another.
func TestEachListIsNew(t *testing.T) {
	for _, e := range event.Enabled(program(), lasting(), good()) {
		p, w := roomyProgram(), roomyWorld()
		one, _ := Do(p, lasting(), w, e)
		two, _ := Do(p, lasting(), w, e)
		var all lists
		all.addProgram(p)
		all.addWorld(w)
		all.addWorld(one)
		all.addWorld(two)
		all.wantApart(t, "Do of "+ident.Name(e))
		p, w = roomyProgram(), roomyWorld()
		all = lists{}
		all.addProgram(p)
		all.addWorld(w)
		all.addNotes(Notes(p, w, e))
		all.addNotes(Notes(p, w, e))
		all.wantApart(t, "Notes of "+ident.Name(e))
	}
	for n := range len(roomyEvents()) + 1 {
		p, l := roomyProgram(), roomyEvents()[:n]
		one, _, _ := Run(p, lasting(), l)
		two, _, _ := Run(p, lasting(), l)
		all := lists{events: [][]api.Event{l}}
		all.addProgram(p)
		all.addWorld(one)
		all.addWorld(two)
		all.wantApart(t, fmt.Sprintf("Run of %d", n))
	}
}

// What was asked once is asked again, of the same memory with other numbers in it.
func TestNothingIsKept(t *testing.T) {
	p, w, e := program(), good(), of(api.Deliver, 0, 4, 2)
	first, _ := Do(p, lasting(), w, e)
	was := told(first)
	if toldNotes(Notes(p, w, e)) != toldNotes(spread()) {
		t.Fatal("the notes are others")
	}
	p.Handlers[spreads].Code[4].A = free
	w.Mail[3].Note.Args[0] = 21
	second, _ := Do(p, lasting(), w, e)
	want := good()
	gone(&want, id(0, 4, 2))
	want.Actors[0].Regs[1], want.Actors[0].Sent, want.Actors[2].Over = 21, 8, 3
	come(&want, msg(0, 5, 0, note(1, stores, 30)), msg(0, 7, 0, note(0, spreads, 30, 21)))
	if told(second) != told(want) {
		t.Errorf("P11.3: Do keeps what was changed:\n%s\nnot\n%s", told(second), told(want))
	}
	if told(first) != was {
		t.Errorf("P11.3: what Do answered changed:\n%s\nnot\n%s", told(first), was)
	}
	wantNotes(t, "what was changed", p, w, e, note(1, stores, 30), note(2, free), note(0, spreads, 30, 21))
	w.Used.Drop = -1
	wantNotes(t, "what was broken", p, w, e)
	if _, err := Do(p, lasting(), w, e); err != api.ErrNone {
		t.Errorf("P11.3: Do keeps a world that was changed: %d", err)
	}
}

// A list that is nil and one that is empty mean the same.
func TestNilIsEmpty(t *testing.T) {
	p, w := program(), good()
	p.Handlers[free].Code, p.Actors[2].Regs, p.Boot[1].Args = []api.Instr{}, []int{}, []int{}
	w.Actors[2].Regs, w.Mail[0].Note.Args = []int{}, []int{}
	for _, e := range event.Enabled(program(), lasting(), good()) {
		got, err := Do(p, lasting(), w, e)
		want, _ := Do(program(), lasting(), good(), e)
		if err != api.OK || told(got) != told(want) {
			t.Errorf("P11.1: Do of %s, with empty lists, is %d, and makes\n%s\nnot\n%s", ident.Name(e), err, told(got), told(want))
		}
	}
	w = good()
	w.Mail = []api.Message{}
	want := good()
	want.Mail, want.Used.Crash, want.Actors[1].Down = nil, 5, api.Crashed
	if got, err := Do(p, lasting(), w, by(api.Crash, 1)); err != api.OK || told(got) != told(want) {
		t.Errorf("P11.1: Do with nothing on its way is %d, and makes\n%s", err, told(got))
	}
}
