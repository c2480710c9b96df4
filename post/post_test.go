package post

import (
	"fmt"
	"math"
	"slices"
	"testing"

	"gavotte/api"
)

func msg(from, n, last, to int, args ...int) api.Message {
	return api.Message{ID: api.ID{From: from, N: n, Copy: last}, Note: api.Note{To: to, Args: args}}
}

// program is three actors, with room for two messages, for none and for many.
func program() api.Program {
	return api.Program{Actors: []api.Actor{{Cap: 2}, {Cap: 0}, {Cap: 16}}}
}

func good() api.World {
	return api.World{
		Actors: []api.Local{{Over: 4}, {Over: 5, Down: api.Crashed}, {Over: 6, Regs: []int{1}}},
		Mail:   []api.Message{msg(-1, 0, 0, 2, 7), msg(0, 1, 0, 0), msg(0, 1, 2, 2), msg(2, 3, 0, 1)},
		Used:   api.Budget{Drop: 1, Dup: 2, Time: 3, Crash: 4},
	}
}

func wantPut(t *testing.T, what string, p api.Program, m api.Message, change func(w *api.World)) {
	t.Helper()
	got, want := good(), good()
	Put(p, &got, m)
	change(&want)
	if fmt.Sprint(got) != fmt.Sprint(want) {
		t.Errorf("Put of %s:\n got %v\nwant %v", what, got, want)
	}
}

func TestPutByItsID(t *testing.T) {
	for _, at := range []struct {
		place int
		m     api.Message
	}{
		{0, msg(-1, -1, 9, 2)}, {1, msg(-1, 0, 1, 2)}, {1, msg(0, 1, -1, 0, 1, 2)}, {2, msg(0, 1, 1, 2)}, {3, msg(0, 1, 3, 0)}, {3, msg(1, 0, 0, 2)}, {4, msg(2, 3, 1, 0)}, {4, msg(math.MaxInt, 0, 0, 2)},
	} {
		wantPut(t, fmt.Sprint(at.m), program(), at.m, func(w *api.World) { w.Mail = slices.Insert(w.Mail, at.place, at.m) })
	}
}

func TestPutWithoutRoom(t *testing.T) {
	p := program()
	wantPut(t, "one to a Cap of 0", p, msg(5, 5, 0, 1), func(w *api.World) { w.Actors[1].Over = 6 })
	p.Actors[0].Cap, p.Actors[2].Cap = 1, 2
	wantPut(t, "one to a Cap that is full", p, msg(5, 5, 0, 0), func(w *api.World) { w.Actors[0].Over = 5 })
	wantPut(t, "one to a Cap that two fill", p, msg(-9, 5, 0, 2), func(w *api.World) { w.Actors[2].Over = 7 })
	p.Actors[2].Cap = 1
	wantPut(t, "one to a Cap that is more than full", p, msg(5, 5, 0, 2), func(w *api.World) { w.Actors[2].Over = 7 })
	p.Actors[2].Cap = 3
	wantPut(t, "the last that has room", p, msg(5, 5, 0, 2), func(w *api.World) { w.Mail = append(w.Mail, msg(5, 5, 0, 2)) })
}

// Whom the one that is there goes to does not count.
func TestPutOfAnIDThatIsThere(t *testing.T) {
	wantPut(t, "a message that is there", program(), msg(0, 1, 0, 0), func(w *api.World) { w.Actors[0].Over = 5 })
	wantPut(t, "a Copy that is there", program(), msg(0, 1, 2, 2), func(w *api.World) { w.Actors[2].Over = 7 })
	wantPut(t, "an ID that is there, to another one", program(), msg(0, 1, 2, 0, 3), func(w *api.World) { w.Actors[0].Over = 5 })
	wantPut(t, "an ID that is there, without room", program(), msg(2, 3, 0, 1), func(w *api.World) { w.Actors[1].Over = 6 })
}

func TestPutToNobody(t *testing.T) {
	none := func(*api.World) {}
	for _, to := range []int{-1, 3, 8, math.MinInt, math.MaxInt} {
		wantPut(t, fmt.Sprintf("one to %d", to), program(), msg(5, 5, 0, to), none)
	}
	few, many := program(), program()
	few.Actors = few.Actors[:2]
	many.Actors = append(many.Actors, api.Actor{Cap: 9})
	wantPut(t, "one to whom the program has not", few, msg(5, 5, 0, 2), none)
	wantPut(t, "one to whom the world has not", many, msg(5, 5, 0, 3), none)
	wantPut(t, "one of no program", api.Program{}, msg(5, 5, 0, 0), none)
}

func TestPutKeepsNoList(t *testing.T) {
	m, w := msg(5, 5, 0, 2, 1, 2), good()
	old := w.Mail
	Put(program(), &w, m)
	m.Note.Args[0], old[0].Note.Args[0], old[0].ID.N = 99, 99, 99
	if w.Mail[4].Note.Args[0] != 1 || w.Mail[0].Note.Args[0] != 7 || w.Mail[0].ID.N != 0 {
		t.Errorf("Put kept a list: %v", w.Mail)
	}
}
