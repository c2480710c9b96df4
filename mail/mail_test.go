package mail

import (
	"fmt"
	"math"
	"slices"
	"strings"
	"testing"

	"gavotte/api"
)

func id(from, n, last int) api.ID { return api.ID{From: from, N: n, Copy: last} }

func msg(from, n, last, to, handler int, args ...int) api.Message {
	return api.Message{ID: id(from, n, last), Note: api.Note{To: to, Handler: handler, Args: args}}
}

// good is a list in order, with something of everything; made anew each time, as tests change it.
func good() []api.Message {
	return []api.Message{
		msg(-1, 0, 0, 1, 0),
		msg(-1, 3, 0, 2, 1, 5, 6),
		msg(0, 0, 0, 1, 2, 7),
		msg(0, 0, 1, 1, 2, 7),
		msg(0, 2, 0, 0, 0),
		msg(4, 1, 0, 2, 3, 1, 2, 3, 4),
	}
}

// told writes a list whole, by which a nil one and an empty one are the same.
func told(l []api.Message) string {
	var out []string
	for _, m := range l {
		out = append(out, fmt.Sprintf("%d.%d.%d>%d:%d%v", m.ID.From, m.ID.N, m.ID.Copy, m.Note.To, m.Note.Handler, m.Note.Args))
	}
	return strings.Join(out, " ")
}

// lists are all of up to most messages whose IDs are from some; each message tells by its To where it stands.
func lists(some []api.ID, most int) [][]api.Message {
	all, last := [][]api.Message{nil}, [][]api.Message{nil}
	for n := 0; n < most; n++ {
		var next [][]api.Message
		for _, l := range last {
			for _, i := range some {
				m := api.Message{ID: i, Note: api.Note{To: n, Handler: 9, Args: []int{n, len(next)}}}
				next = append(next, append(slices.Clone(l), m))
			}
		}
		all, last = append(all, next...), next
	}
	return all
}

// risingIDs stand in their order, and differ now in one number alone, now in two that speak against each other.
var risingIDs = []api.ID{id(math.MinInt, 5, 5), id(-1, 0, 1), id(-1, 1, 0), id(0, 0, 0), id(0, 0, 1), id(math.MaxInt, -9, -9)}

// rank is an ID's place among these, by which tests order without asking another package.
func rank(i api.ID) int { return slices.Index(risingIDs, i) }

func TestSorted(t *testing.T) {
	turned := good()
	turned[1], turned[2] = turned[2], turned[1]
	twice := []api.Message{msg(0, 0, 0, 1, 1), msg(0, 0, 0, 2, 2)}
	rows := []struct {
		what string
		l    []api.Message
		want bool
	}{
		{"nil", nil, true},
		{"an empty list", []api.Message{}, true},
		{"a single one", good()[3:4], true},
		{"in order", good(), true},
		{"out of order", turned, false},
		{"out of order at the end", []api.Message{msg(0, 0, 0, 0, 0), msg(1, 0, 0, 0, 0), msg(0, 9, 9, 0, 0)}, false},
		{"one ID twice", twice, false},
		{"one ID twice at the end", append(good(), msg(4, 1, 0, 2, 3)), false},
		{"by From, not N", []api.Message{msg(0, 9, 0, 0, 0), msg(1, 0, 0, 0, 0)}, true},
		{"by N, not Copy", []api.Message{msg(0, 0, 9, 0, 0), msg(0, 1, 0, 0, 0)}, true},
		{"by Copy", []api.Message{msg(0, 0, 1, 0, 0), msg(0, 0, 0, 0, 0)}, false},
		{"whatever their notes", []api.Message{msg(0, 0, 0, 9, 9, 9), msg(0, 0, 1, 0, 0)}, true},
	}
	for _, r := range rows {
		if got := Sorted(r.l); got != r.want {
			t.Errorf("P8.1: Sorted of %s is %v", r.what, got)
		}
	}
}

func TestSortedOfAll(t *testing.T) {
	for _, l := range lists(risingIDs, 4) {
		want := true
		for i := range l {
			for k := range i {
				want = want && rank(l[k].ID) < rank(l[i].ID)
			}
		}
		if Sorted(l) != want {
			t.Fatalf("P8.1: Sorted of %s is %v", told(l), !want)
		}
	}
}

func TestFind(t *testing.T) {
	twice := []api.Message{msg(5, 0, 0, 1, 1), msg(2, 0, 0, 1, 1), msg(9, 0, 0, 1, 1), msg(2, 0, 0, 8, 8)}
	rows := []struct {
		what string
		l    []api.Message
		id   api.ID
		want int
	}{
		{"nil", nil, id(0, 0, 0), -1},
		{"an empty list", []api.Message{}, id(0, 0, 0), -1},
		{"a single one", good()[:1], id(-1, 0, 0), 0},
		{"a single other one", good()[:1], id(0, 0, 0), -1},
		{"the first", good(), id(-1, 0, 0), 0},
		{"one between", good(), id(0, 0, 1), 3},
		{"the last", good(), id(4, 1, 0), 5},
		{"another From", good(), id(1, 1, 0), -1},
		{"another N", good(), id(4, 0, 0), -1},
		{"another Copy", good(), id(4, 1, 1), -1},
		{"one less than all", good(), id(-2, 0, 0), -1},
		{"one greater than all", good(), id(5, 0, 0), -1},
		{"one that is there twice", twice, id(2, 0, 0), 1},
		{"out of order, the first", twice, id(5, 0, 0), 0},
		{"out of order, between", twice, id(9, 0, 0), 2},
	}
	for _, r := range rows {
		if got := Find(r.l, r.id); got != r.want {
			t.Errorf("P8.1: Find of %s is %d, not %d", r.what, got, r.want)
		}
	}
}

func TestTo(t *testing.T) {
	rows := []struct {
		what string
		l    []api.Message
		who  int
		want int
	}{
		{"nil", nil, 0, 0},
		{"an empty list", []api.Message{}, 0, 0},
		{"one", good(), 0, 1},
		{"three", good(), 1, 3},
		{"two", good(), 2, 2},
		{"none, though there is such a handler", good(), 3, 0},
		{"none, though there is such a From", good(), 4, 0},
		{"none, though there is such a From, below 0", good(), -1, 0},
		{"a place that is none", []api.Message{msg(0, 0, 0, -7, 0), msg(0, 1, 0, math.MinInt, 0)}, math.MinInt, 1},
		{"one ID twice", []api.Message{msg(0, 0, 0, 5, 0), msg(0, 0, 0, 5, 0)}, 5, 2},
	}
	for _, r := range rows {
		if got := To(r.l, r.who); got != r.want {
			t.Errorf("P8.1: To of %s is %d, not %d", r.what, got, r.want)
		}
	}
}

// put is the list that Put answers where it must answer one.
func put(t *testing.T, l []api.Message, m api.Message) []api.Message {
	t.Helper()
	out, e := Put(l, m)
	if e != api.OK {
		t.Fatalf("P8.1: Put of %s to %s is %d", told([]api.Message{m}), told(l), e)
	}
	return out
}

func TestPut(t *testing.T) {
	odd := []api.Message{msg(5, 0, 0, 1, 1), msg(2, 0, 0, 1, 1), msg(2, 0, 0, 7, 7), msg(9, 0, 0, 1, 1)}
	rows := []struct {
		what string
		l    []api.Message
		m    api.Message
		at   int
	}{
		{"nil", nil, msg(3, 2, 1, 4, 5, 6, 7), 0},
		{"an empty list", []api.Message{}, msg(3, 2, 1, 4, 5, 6, 7), 0},
		{"ahead of a single one", good()[:1], msg(-2, 9, 9, 0, 0), 0},
		{"behind a single one", good()[:1], msg(-1, 0, 1, 0, 0, 3), 1},
		{"ahead of all", good(), msg(-1, -1, 0, 9, 9, 9), 0},
		{"between, by From", good(), msg(3, 7, 7, 9, 9), 5},
		{"between, by N", good(), msg(-1, 2, 7, 9, 9, 1, 2), 1},
		{"between, by Copy", good(), msg(0, 0, 2, 9, 9), 4},
		{"behind all", good(), msg(4, 1, 1, 0, 0, 8), 6},
		{"out of order, ahead", odd, msg(3, 0, 0, 4, 4), 0},
		{"out of order, between", odd, msg(6, 0, 0, 4, 4), 3},
		{"out of order, behind", odd, msg(10, 0, 0, 4, 4), 4},
		{"a note that may not be", good(), msg(0, 1, 0, -8, math.MaxInt, 1, 2, 3, 4, 5, 6, 7, 8, 9), 4},
	}
	for _, r := range rows {
		want := slices.Insert(slices.Clone(r.l), r.at, r.m)
		if got := put(t, r.l, r.m); told(got) != told(want) {
			t.Errorf("P8.1: Put, %s:\n got %s\nwant %s", r.what, told(got), told(want))
		}
	}
}

func TestPutOfWhatIsThere(t *testing.T) {
	odd := []api.Message{msg(5, 0, 0, 1, 1), msg(2, 0, 0, 1, 1), msg(2, 0, 0, 7, 7), msg(9, 0, 0, 1, 1)}
	rows := []struct {
		what string
		l    []api.Message
		m    api.Message
	}{
		{"the single one", good()[:1], good()[0]},
		{"the first", good(), good()[0]},
		{"one between, with another note", good(), msg(0, 0, 1, 9, 9, 9)},
		{"the last", good(), good()[5]},
		{"one that is there twice", odd, msg(2, 0, 0, 1, 1)},
		{"one that stands behind a greater one", odd[1:], msg(9, 0, 0, 1, 1)},
		{"one that stands behind where it would go", odd, msg(2, 0, 0, 0, 0)},
	}
	for _, r := range rows {
		if got, e := Put(r.l, r.m); len(got) != 0 || e != api.ErrArg {
			t.Errorf("P8.1: Put of %s is %s, %d", r.what, told(got), e)
		}
	}
}

// TestPutOfAll holds Put against the document's words, of lists in any order.
func TestPutOfAll(t *testing.T) {
	for _, l := range lists(risingIDs, 4) {
		for _, i := range risingIDs {
			m := api.Message{ID: i, Note: api.Note{To: 7, Handler: 8, Args: []int{9}}}
			there := slices.ContainsFunc(l, func(x api.Message) bool { return x.ID == i })
			got, e := Put(l, m)
			if there {
				if len(got) != 0 || e != api.ErrArg {
					t.Fatalf("P8.1: Put of %v to %s is %s, %d", i, told(l), told(got), e)
				}
				continue
			}
			at := 0
			for at < len(l) && rank(l[at].ID) < rank(i) {
				at++
			}
			if e != api.OK || told(got) != told(slices.Insert(slices.Clone(l), at, m)) {
				t.Fatalf("P8.1: Put of %v to %s is %s, %d", i, told(l), told(got), e)
			}
			if Sorted(l) && !Sorted(got) {
				t.Fatalf("P8.1: Put of %v to %s is out of order: %s", i, told(l), told(got))
			}
		}
	}
}

func TestTake(t *testing.T) {
	odd := []api.Message{msg(5, 0, 0, 1, 1), msg(2, 0, 0, 3, 4, 5), msg(2, 0, 0, 7, 7), msg(9, 0, 0, 1, 1)}
	rows := []struct {
		what string
		l    []api.Message
		id   api.ID
		at   int
	}{
		{"the single one", good()[1:2], id(-1, 3, 0), 0},
		{"the first", good(), id(-1, 0, 0), 0},
		{"one between", good(), id(0, 0, 1), 3},
		{"the last", good(), id(4, 1, 0), 5},
		{"out of order, the first", odd, id(5, 0, 0), 0},
		{"one that is there twice", odd, id(2, 0, 0), 1},
		{"out of order, the last", odd, id(9, 0, 0), 3},
	}
	for _, r := range rows {
		rest, m, e := Take(r.l, r.id)
		want := slices.Delete(slices.Clone(r.l), r.at, r.at+1)
		if told(rest) != told(want) || told([]api.Message{m}) != told(r.l[r.at:r.at+1]) || e != api.OK {
			t.Errorf("P8.1: Take of %s is %s, %v, %d", r.what, told(rest), m, e)
		}
	}
}

func TestTakeOfNone(t *testing.T) {
	rows := []struct {
		what string
		l    []api.Message
		id   api.ID
	}{
		{"nil", nil, id(0, 0, 0)},
		{"an empty list", []api.Message{}, id(0, 0, 0)},
		{"a single one", good()[:1], id(0, 0, 0)},
		{"another From", good(), id(3, 1, 0)},
		{"another N", good(), id(4, 2, 0)},
		{"another Copy", good(), id(4, 1, 1)},
		{"one less than all", good(), id(math.MinInt, 0, 0)},
		{"one greater than all", good(), id(math.MaxInt, 0, 0)},
	}
	for _, r := range rows {
		rest, m, e := Take(r.l, r.id)
		if len(rest) != 0 || told([]api.Message{m}) != told([]api.Message{{}}) || e != api.ErrNone {
			t.Errorf("P8.1: Take of %s is %s, %v, %d", r.what, told(rest), m, e)
		}
	}
}

func TestTakeOfWhatWasPut(t *testing.T) {
	for _, l := range lists(risingIDs, 4) {
		for _, i := range risingIDs {
			m := api.Message{ID: i, Note: api.Note{To: 7, Handler: 8, Args: []int{9, 10}}}
			all, e := Put(l, m)
			if e != api.OK {
				continue
			}
			rest, back, e := Take(all, i)
			if e != api.OK || told(rest) != told(l) || told([]api.Message{back}) != told([]api.Message{m}) {
				t.Fatalf("P8.2: Take of %v, put to %s, is %s, %v, %d", i, told(l), told(rest), back, e)
			}
		}
	}
}

// changes are done to a list one by one, each of which makes it another one.
var changes = []struct {
	what string
	do   func(l []api.Message) []api.Message
}{
	{"another From", func(l []api.Message) []api.Message { l[0].ID.From--; return l }},
	{"another N", func(l []api.Message) []api.Message { l[2].ID.N++; return l }},
	{"another Copy", func(l []api.Message) []api.Message { l[3].ID.Copy++; return l }},
	{"another To", func(l []api.Message) []api.Message { l[4].Note.To++; return l }},
	{"another Handler", func(l []api.Message) []api.Message { l[5].Note.Handler++; return l }},
	{"another argument, the first", func(l []api.Message) []api.Message { l[5].Note.Args[0]++; return l }},
	{"another argument, the last", func(l []api.Message) []api.Message { l[5].Note.Args[3]++; return l }},
	{"two arguments turned", func(l []api.Message) []api.Message {
		l[1].Note.Args[0], l[1].Note.Args[1] = l[1].Note.Args[1], l[1].Note.Args[0]
		return l
	}},
	{"one argument less", func(l []api.Message) []api.Message { l[1].Note.Args = l[1].Note.Args[:1]; return l }},
	{"one argument more", func(l []api.Message) []api.Message { l[0].Note.Args = []int{0}; return l }},
	{"two turned", func(l []api.Message) []api.Message { l[0], l[1] = l[1], l[0]; return l }},
	{"the last less", func(l []api.Message) []api.Message { return l[:5] }},
	{"the first less", func(l []api.Message) []api.Message { return l[1:] }},
	{"one more", func(l []api.Message) []api.Message { return append(l, api.Message{}) }},
	{"the last twice", func(l []api.Message) []api.Message { return append(l, l[5]) }},
	{"none", func(l []api.Message) []api.Message { return nil }},
}

func TestSame(t *testing.T) {
	if !Same(good(), good()) {
		t.Error("P8.1: Same of two that are alike is false")
	}
	for _, c := range changes {
		other := c.do(good())
		if Same(good(), other) || Same(other, good()) {
			t.Errorf("P8.1: Same is true, with %s", c.what)
		}
		if !Same(other, c.do(good())) {
			t.Errorf("P8.1: Same of two that are alike is false, both with %s", c.what)
		}
	}
}

func TestNilIsEmpty(t *testing.T) {
	bare := []api.Message{{ID: id(1, 2, 3)}}
	empty := []api.Message{{ID: id(1, 2, 3), Note: api.Note{Args: []int{}}}}
	if !Same(nil, []api.Message{}) || !Same([]api.Message{}, nil) || !Same(nil, nil) || !Same(bare, empty) || !Same(empty, bare) {
		t.Error("P8.1: Same of a nil list and an empty one is false")
	}
	if len(Copy(nil)) != 0 || len(Copy([]api.Message{})) != 0 {
		t.Error("P8.1: Copy of no messages has some")
	}
}

func TestCopy(t *testing.T) {
	odd := []api.Message{msg(5, 0, 0, 1, 1), msg(2, 0, 0, 1, 1, 3), msg(2, 0, 0, 7, 7), {Note: api.Note{Args: []int{}}}}
	for _, l := range [][]api.Message{nil, {}, good()[:1], good(), odd} {
		got := Copy(l)
		if told(got) != told(l) || !Same(got, l) {
			t.Errorf("P8.1: Copy of %s is %s", told(l), told(got))
		}
	}
}

// roomy is a list, and a message, that have spare room at every place where a careless call could write.
func roomy() ([]api.Message, api.Message) {
	l := append(make([]api.Message, 0, 20), good()...)
	for i := range l {
		l[i].Note.Args = append(make([]int, 0, 9), l[i].Note.Args...)
	}
	m := msg(0, 1, 0, 8, 9)
	m.Note.Args = append(make([]int, 0, 9), 40, 41)
	return l, m
}

// whole writes a list with its spare room.
func whole(l []api.Message) string {
	out := ""
	for _, m := range l[:cap(l)] {
		out += fmt.Sprint(m.ID, m.Note.To, m.Note.Handler, len(m.Note.Args), m.Note.Args[:cap(m.Note.Args)])
	}
	return out
}

// answer is what a call answers: all lists of messages in it.
type answer struct {
	what string
	call func(l []api.Message, m api.Message) [][]api.Message
}

func answers() []answer {
	puts := func(l []api.Message, m api.Message) [][]api.Message {
		out, _ := Put(l, m)
		return [][]api.Message{out}
	}
	return []answer{
		{"Copy", func(l []api.Message, m api.Message) [][]api.Message { return [][]api.Message{Copy(l)} }},
		{"Copy of one", func(l []api.Message, m api.Message) [][]api.Message { return [][]api.Message{Copy(l[2:3])} }},
		{"Copy of none", func(l []api.Message, m api.Message) [][]api.Message { return [][]api.Message{Copy(l[:0])} }},
		{"Put between", puts},
		{"Put ahead", func(l []api.Message, m api.Message) [][]api.Message { m.ID.From = -9; return puts(l, m) }},
		{"Put behind", func(l []api.Message, m api.Message) [][]api.Message { m.ID.From = 9; return puts(l, m) }},
		{"Put to none", func(l []api.Message, m api.Message) [][]api.Message { return puts(l[:0], m) }},
		{"Take the first", takes(id(-1, 0, 0))},
		{"Take between", takes(id(-1, 3, 0))},
		{"Take the last", takes(id(4, 1, 0))},
		{"Take the only one", func(l []api.Message, m api.Message) [][]api.Message { return takes(id(-1, 0, 0))(l[:1], m) }},
	}
}

// takes also hands out the message that is answered, in a list of its own.
func takes(i api.ID) func(l []api.Message, m api.Message) [][]api.Message {
	return func(l []api.Message, m api.Message) [][]api.Message {
		rest, taken, _ := Take(l, i)
		return [][]api.Message{rest, {taken}}
	}
}

// spoil changes all of a list, and writes behind its end and that of its arguments.
func spoil(l []api.Message) {
	for i := range l {
		args := l[i].Note.Args
		for k := range args {
			args[k] += 1000
		}
		_ = append(args, 1001, 1002, 1003, 1004)
	}
	for i := range l {
		l[i] = msg(77, 77, 77, 77, 77, 77)
	}
	_ = append(l, msg(78, 78, 78, 78, 78, 78), msg(79, 79, 79, 79, 79, 79))
}

func TestNothingHandedInIsChanged(t *testing.T) {
	l, m := roomy()
	list, one := whole(l), whole([]api.Message{m})
	calls := answers()
	calls = append(calls,
		answer{"Put of what is there", func(l []api.Message, m api.Message) [][]api.Message { Put(l, l[0]); return nil }},
		answer{"Take of none", func(l []api.Message, m api.Message) [][]api.Message { Take(l, id(99, 0, 0)); return nil }},
		answer{"Same", func(l []api.Message, m api.Message) [][]api.Message { Same(l, l[1:]); return nil }},
		answer{"Sorted", func(l []api.Message, m api.Message) [][]api.Message { Sorted(l); return nil }},
		answer{"Find", func(l []api.Message, m api.Message) [][]api.Message { Find(l, m.ID); return nil }},
		answer{"To", func(l []api.Message, m api.Message) [][]api.Message { To(l, 1); return nil }})
	for _, a := range calls {
		for _, out := range a.call(l, m) {
			if whole(l) != list || whole([]api.Message{m}) != one {
				t.Fatalf("P8.2: %s changed what it was given", a.what)
			}
			spoil(out)
		}
		if whole(l) != list || whole([]api.Message{m}) != one {
			t.Fatalf("P8.2: what %s was given changed with what it answered", a.what)
		}
	}
}

func TestNothingHandedInIsKept(t *testing.T) {
	for _, a := range answers() {
		l, m := roomy()
		out := a.call(l, m)
		was := ""
		for _, x := range out {
			was += told(x) + "|"
		}
		spoil(l)
		spoil([]api.Message{m})
		now := ""
		for _, x := range out {
			now += told(x) + "|"
		}
		if now != was {
			t.Errorf("P8.2: what %s answered changed with what it was given:\n was %s\n now %s", a.what, was, now)
		}
	}
}

// TestNoTwoListsOfAnAnswerShare hands in messages that share their arguments with each other.
func TestNoTwoListsOfAnAnswerShare(t *testing.T) {
	for _, a := range answers() {
		l, m := roomy()
		args := append(make([]int, 0, 9), 1, 2, 3)
		for i := range l {
			l[i].Note.Args = args
		}
		m.Note.Args = args
		var all []*api.Message
		for _, out := range a.call(l, m) {
			for i := range out {
				all = append(all, &out[i])
			}
		}
		for i, x := range all {
			x.Note.Args[0] = 50 + i
		}
		for _, x := range all { // behind all, as it could be the next one's beginning that is written
			_ = append(x.Note.Args, 99)
		}
		for i, x := range all {
			if fmt.Sprint(x.Note.Args) != fmt.Sprint([]int{50 + i, 2, 3}) {
				t.Errorf("P8.2: two messages that %s answered share their arguments", a.what)
			}
		}
	}
}

func TestSameAnswerAgain(t *testing.T) {
	l, m := roomy()
	for _, a := range answers() {
		first := a.call(l, m)
		for k, again := range a.call(l, m) {
			if told(again) != told(first[k]) {
				t.Errorf("P8.2: %s answers now this, now that", a.what)
			}
			spoil(first[k])
		}
		if third := a.call(l, m); len(third) > 0 && len(third[0]) > 0 && third[0][0].ID.From == 77 {
			t.Errorf("P8.2: %s answers what it answered before", a.what)
		}
	}
}
