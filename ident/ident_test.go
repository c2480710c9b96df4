package ident

import (
	"math"
	"math/big"
	"regexp"
	"strings"
	"testing"

	"gavotte/api"
)

// some are numbers at the edges, rising.
var some = []int{math.MinInt, math.MinInt + 1, -1 << 32, -10, -1, 0, 1, 9, 10, 1 << 32, math.MaxInt - 1, math.MaxInt}

// few are enough where four numbers are gone through at once.
var few = []int{math.MinInt, -1, 0, 12, math.MaxInt}

func id(from, n, last int) api.ID { return api.ID{From: from, N: n, Copy: last} }

// ids are all of three such numbers, rising by From, then N, then Copy.
func ids(numbers []int) []api.ID {
	var all []api.ID
	for _, from := range numbers {
		for _, n := range numbers {
			for _, last := range numbers {
				all = append(all, id(from, n, last))
			}
		}
	}
	return all
}

// events are all of such kinds and numbers, rising by Kind, then ID, then Who.
func events(kinds, numbers []int) []api.Event {
	var all []api.Event
	for _, kind := range kinds {
		for _, i := range ids(numbers) {
			for _, who := range numbers {
				all = append(all, api.Event{Kind: kind, ID: i, Who: who})
			}
		}
	}
	return all
}

func TestLess(t *testing.T) {
	rows := []struct {
		a, b api.ID
		want bool
	}{
		{id(0, 9, 9), id(1, 0, 0), true}, {id(1, 0, 0), id(0, 9, 9), false},
		{id(3, 0, 9), id(3, 1, 0), true}, {id(3, 1, 0), id(3, 0, 9), false},
		{id(3, 4, 0), id(3, 4, 1), true}, {id(3, 4, 1), id(3, 4, 0), false},
		{id(3, 4, 5), id(3, 4, 5), false}, {id(0, 0, 0), id(0, 0, 0), false},
		{id(-1, 0, 0), id(0, 0, 0), true}, {id(2, 0, 0), id(10, 0, 0), true}, {id(-10, 0, 0), id(-2, 0, 0), true},
		{id(math.MinInt, 0, 0), id(math.MaxInt, 0, 0), true}, {id(math.MaxInt, 0, 0), id(math.MinInt, 0, 0), false},
	}
	for _, r := range rows {
		if got := Less(r.a, r.b); got != r.want {
			t.Errorf("P7.1: Less(%v, %v) is %v", r.a, r.b, got)
		}
	}
}

func TestLessOfAll(t *testing.T) {
	all := ids(some)
	for i, a := range all {
		for k, b := range all {
			if Less(a, b) != (i < k) {
				t.Fatalf("P7.1: Less(%v, %v) is %v", a, b, i >= k)
			}
		}
	}
}

func TestText(t *testing.T) {
	rows := []struct {
		id   api.ID
		want string
	}{
		{id(-1, 0, 0), "-1.0.0"}, {id(0, 0, 0), "0.0.0"}, {id(1, 2, 3), "1.2.3"}, {id(7, 10, 100), "7.10.100"}, {id(0, -5, -60), "0.-5.-60"},
		{id(math.MinInt, math.MaxInt, math.MinInt), "-9223372036854775808.9223372036854775807.-9223372036854775808"},
		{id(math.MaxInt, math.MinInt, math.MaxInt), "9223372036854775807.-9223372036854775808.9223372036854775807"},
	}
	for _, r := range rows {
		if got := Text(r.id); got != r.want {
			t.Errorf("P7.1: Text(%v) is %q, not %q", r.id, got, r.want)
		}
		if got, e := Parse(r.want); got != r.id || e != api.OK {
			t.Errorf("P7.1: Parse(%q) is %v, %d", r.want, got, e)
		}
	}
}

// badNumbers are texts that are nearly one in decimal.
func badNumbers() []string {
	return []string{"", " ", "-", "+", "--1", "+1", "+0", "-0", "00", "01", "-01", " 1", "1 ", "- 1", "1 1", "\t1", "1\n", "1\r", "1\x00", "0x1", "1_0", "1e2", "1,0", "x", "1x", "\u0661", "\xff",
		"9223372036854775808", "-9223372036854775809", "18446744073709551616", "18446744073709551617", strings.Repeat("9", 400), strings.Repeat("0", 400)}
}

// badIDs are texts that are nearly a message's name.
func badIDs() []string {
	bad := []string{"", " ", ".", "..", "...", "1", "1.2", "1.2.", "1..3", ".2.3", "1.2.3.", ".1.2.3", "1..2.3", "1.2.3.4", "1.2.3.0", "1,2,3", "1 2 3", "1. 2.3", "1.2 .3", "1:2:3", "-1.0.0-", "1.2.3deliver", "deliver 1.2.3", strings.Repeat(".", 1000), strings.Repeat("1.", 1000)}
	for _, x := range badNumbers() {
		bad = append(bad, x+".2.3", "1."+x+".3", "1.2."+x)
	}
	return bad
}

func TestParseRefuses(t *testing.T) {
	for _, s := range badIDs() {
		if got, e := Parse(s); got != (api.ID{}) || e != api.ErrBad {
			t.Errorf("P7.1: Parse(%q) is %v, %d", s, got, e)
		}
	}
}

func TestUnlikeIDsHaveUnlikeTexts(t *testing.T) {
	seen := map[string]api.ID{}
	for _, a := range ids(some) {
		s := Text(a)
		if b, ok := seen[s]; ok {
			t.Errorf("P7.2: %v and %v are both %q", a, b, s)
		}
		seen[s] = a
		if got, e := Parse(s); got != a || e != api.OK {
			t.Errorf("P7.2: Parse(%q) is %v, %d", s, got, e)
		}
	}
}

func TestBefore(t *testing.T) {
	rows := []struct {
		a, b api.Event
		want bool
	}{
		{api.Event{Kind: 1, ID: id(9, 9, 9), Who: 9}, api.Event{Kind: 2}, true},
		{api.Event{Kind: 2, ID: id(0, 9, 9), Who: 9}, api.Event{Kind: 2, ID: id(1, 0, 0)}, true},
		{api.Event{Kind: 2, ID: id(1, 0, 9), Who: 9}, api.Event{Kind: 2, ID: id(1, 1, 0)}, true},
		{api.Event{Kind: 2, ID: id(1, 1, 0), Who: 9}, api.Event{Kind: 2, ID: id(1, 1, 1)}, true},
		{api.Event{Kind: 4, Who: 2}, api.Event{Kind: 4, Who: 10}, true},
		{api.Event{Kind: 5, Who: -1}, api.Event{Kind: 5}, true},
		{api.Event{Kind: 0, Who: 9}, api.Event{Kind: 1}, true},
		{api.Event{Kind: math.MinInt}, api.Event{Kind: math.MaxInt}, true},
	}
	for _, r := range rows {
		if got := Before(r.a, r.b); got != r.want {
			t.Errorf("P7.1: Before(%v, %v) is %v", r.a, r.b, got)
		}
		if Before(r.b, r.a) || Before(r.a, r.a) || Before(r.b, r.b) {
			t.Errorf("P7.1: Before of %v and %v is no order", r.a, r.b)
		}
	}
}

func TestBeforeOfAll(t *testing.T) {
	all := events([]int{math.MinInt, 0, 1, 4, math.MaxInt}, []int{math.MinInt, -1, 0, math.MaxInt})
	for i, a := range all {
		for k, b := range all {
			if Before(a, b) != (i < k) {
				t.Fatalf("P7.1: Before(%v, %v) is %v", a, b, i >= k)
			}
		}
	}
}

func TestName(t *testing.T) {
	rows := []struct {
		e    api.Event
		want string
	}{
		{api.Event{Kind: api.Deliver, ID: id(-1, 0, 0)}, "deliver -1.0.0"}, {api.Event{Kind: api.Drop, ID: id(3, 4, 1)}, "drop 3.4.1"}, {api.Event{Kind: api.Dup}, "dup 0.0.0"},
		{api.Event{Kind: api.Time}, "time 0"}, {api.Event{Kind: api.Time, Who: 7}, "time 7"}, {api.Event{Kind: api.Crash, Who: -12}, "crash -12"},
		{api.Event{Kind: api.Time, Who: math.MinInt}, "time -9223372036854775808"}, {api.Event{Kind: api.Crash, Who: math.MaxInt}, "crash 9223372036854775807"},
		{api.Event{Kind: api.Deliver, ID: id(math.MinInt, math.MaxInt, 0)}, "deliver -9223372036854775808.9223372036854775807.0"},
	}
	for _, r := range rows {
		if got := Name(r.e); got != r.want {
			t.Errorf("P7.1: Name(%v) is %q, not %q", r.e, got, r.want)
		}
		if got, e := Event(r.want); got != r.e || e != api.OK {
			t.Errorf("P7.1: Event(%q) is %v, %d", r.want, got, e)
		}
	}
}

func TestNameOfWhatIsNoEvent(t *testing.T) {
	var none []api.Event
	for _, kind := range []int{0, 6, -1, -4, 7, 1<<32 + 1, 1<<32 + 4, math.MinInt, math.MaxInt} {
		none = append(none, api.Event{Kind: kind}, api.Event{Kind: kind, ID: id(1, 2, 3)}, api.Event{Kind: kind, Who: 1}, api.Event{Kind: kind, ID: id(1, 2, 3), Who: 1})
	}
	for _, kind := range []int{api.Deliver, api.Drop, api.Dup} {
		for _, who := range []int{1, -1, math.MinInt, math.MaxInt} {
			none = append(none, api.Event{Kind: kind, Who: who}, api.Event{Kind: kind, ID: id(-1, 0, 0), Who: who})
		}
	}
	for _, kind := range []int{api.Time, api.Crash} {
		for _, i := range []api.ID{id(1, 0, 0), id(0, 1, 0), id(0, 0, 1), id(-1, 0, 0), id(math.MinInt, math.MaxInt, 0)} {
			none = append(none, api.Event{Kind: kind, ID: i}, api.Event{Kind: kind, ID: i, Who: 1})
		}
	}
	for _, e := range none {
		if got := Name(e); got != "" {
			t.Errorf("P7.1: Name(%v) is %q", e, got)
		}
	}
}

func TestEventRefuses(t *testing.T) {
	bad := []string{"", " ", "  ", "\n", "deliver", "drop", "dup", "time", "crash", "deliver ", "time ", " 1.2.3", " 1", "1.2.3", "1", "-1.0.0", "none 1", "0 1", "4 1", "1 1.2.3"}
	for _, word := range []string{"deliver", "drop", "dup"} {
		for _, x := range badIDs() {
			bad = append(bad, word+" "+x)
		}
		bad = append(bad, word+"  1.2.3", word+" 1.2.3 ", " "+word+" 1.2.3", word+"1.2.3", word+"\t1.2.3", word+" 1.2.3\n", word+" 1.2.3 4", word+" 4", word+"s 1.2.3", word[1:]+" 1.2.3", strings.ToUpper(word)+" 1.2.3", strings.ToUpper(word[:1])+word[1:]+" 1.2.3")
	}
	for _, word := range []string{"time", "crash"} {
		for _, x := range badNumbers() {
			bad = append(bad, word+" "+x)
		}
		bad = append(bad, word+"  1", word+" 1 ", " "+word+" 1", word+"1", word+"\t1", word+" 1\n", word+" 1 2", word+" 1.0.0", word+" 0.0.0", word+" 1.", word+"s 1", word[1:]+" 1", strings.ToUpper(word)+" 1", strings.ToUpper(word[:1])+word[1:]+" 1")
	}
	for _, s := range bad {
		if got, e := Event(s); got != (api.Event{}) || e != api.ErrBad {
			t.Errorf("P7.1: Event(%q) is %v, %d", s, got, e)
		}
	}
}

// canBeWritten is by the document's words: which events have a name.
func canBeWritten(e api.Event) bool {
	switch e.Kind {
	case 1, 2, 3:
		return e.Who == 0
	case 4, 5:
		return e.ID.From == 0 && e.ID.N == 0 && e.ID.Copy == 0
	}
	return false
}

func TestUnlikeEventsHaveUnlikeNames(t *testing.T) {
	seen := map[string]api.Event{}
	for _, a := range events([]int{math.MinInt, -1, 0, 1, 2, 3, 4, 5, 6, math.MaxInt}, few) {
		s := Name(a)
		if (s != "") != canBeWritten(a) {
			t.Errorf("P7.1: Name(%v) is %q", a, s)
		}
		if s == "" {
			continue
		}
		if b, ok := seen[s]; ok {
			t.Errorf("P7.2: %v and %v are both %q", a, b, s)
		}
		seen[s] = a
		if got, e := Event(s); got != a || e != api.OK {
			t.Errorf("P7.2: Event(%q) is %v, %d", s, got, e)
		}
	}
	if want := 3*len(few)*len(few)*len(few) + 2*len(few); len(seen) != want {
		t.Errorf("P7.2: there are %d names, not %d", len(seen), want)
	}
}

func TestFault(t *testing.T) {
	want := map[int]bool{2: true, 3: true, 4: true, 5: true}
	for _, kind := range []int{math.MinInt, -5, -2, -1, 0, 1, 2, 3, 4, 5, 6, 7, 1<<32 + 2, math.MaxInt} {
		for _, e := range []api.Event{{Kind: kind}, {Kind: kind, ID: id(1, 2, 3)}, {Kind: kind, Who: 1}, {Kind: kind, ID: id(-1, 0, 0), Who: -1}} {
			if got := Fault(e); got != want[kind] {
				t.Errorf("P7.1: Fault(%v) is %v", e, got)
			}
		}
	}
}

const decimal = `(0|-?[1-9][0-9]*)`

// idForm and eventForm are names by the document's words, not by the package's.
var idForm = regexp.MustCompile(`^` + decimal + `\.` + decimal + `\.` + decimal + `$`)
var eventForm = regexp.MustCompile(`^(?:(?:deliver|drop|dup) ` + decimal + `\.` + decimal + `\.` + decimal + `|(?:time|crash) ` + decimal + `)$`)

// fits tells whether a text is of that form, and its numbers have 64 binary digits.
func fits(form *regexp.Regexp, s string) bool {
	found := form.FindStringSubmatch(s)
	if found == nil {
		return false
	}
	for _, x := range found[1:] {
		if n, ok := new(big.Int).SetString(x, 10); ok && !n.IsInt64() {
			return false
		}
	}
	return true
}

// wantForm holds both readers against the document's words, and the writers against them; it tells how many took the text.
func wantForm(t *testing.T, s string) int {
	t.Helper()
	took := 0
	i, e := Parse(s)
	switch {
	case e == api.OK && fits(idForm, s) && Text(i) == s:
		took++
	case e != api.ErrBad || fits(idForm, s) || i != api.ID{}:
		t.Fatalf("P7.1: Parse(%q) is %v, %d", s, i, e)
	}
	v, e := Event(s)
	switch {
	case e == api.OK && fits(eventForm, s) && Name(v) == s:
		took++
	case e != api.ErrBad || fits(eventForm, s) || v != api.Event{}:
		t.Fatalf("P7.1: Event(%q) is %v, %d", s, v, e)
	}
	return took
}

// Each text that is a byte more, less or other than a name.
func TestTextsThatAreNearlyNames(t *testing.T) {
	took := 0
	for _, s := range []string{"-1.0.12", "9223372036854775807.-9223372036854775808.10", "deliver -1.0.0", "drop 1.20.3", "dup 9223372036854775807.0.-1", "time 0", "time -9223372036854775808", "crash 12"} {
		took += wantForm(t, s)
		for at := range len(s) {
			took += wantForm(t, s[:at]) + wantForm(t, s[at:]) + wantForm(t, s[:at]+s[at+1:])
		}
		for at := range len(s) + 1 {
			for b := range 256 {
				one := string([]byte{byte(b)})
				took += wantForm(t, s[:at]+one+s[at:])
				if at < len(s) {
					took += wantForm(t, s[:at]+one+s[at+1:])
				}
			}
		}
	}
	if took < 500 {
		t.Errorf("%d texts are taken: too few to tell", took)
	}
}

// All short texts of a few bytes, by themselves, behind a word, and as a piece of a name.
func TestAllShortTexts(t *testing.T) {
	texts := []string{""}
	for range 6 {
		var longer []string
		for _, x := range texts {
			for _, s := range []string{x, "dup " + x, "crash " + x, "1.2" + x} {
				wantForm(t, s)
			}
			for _, b := range "019-+. x" {
				longer = append(longer, x+string(b))
			}
		}
		texts = longer
	}
}

func TestAnswersHangOnArgumentsAlone(t *testing.T) {
	a := id(-1, 2, 3)
	text, name := Text(a), Name(api.Event{Kind: api.Drop, ID: a})
	a.N = 9
	if text != "-1.2.3" || name != "drop -1.2.3" || Text(a) != "-1.9.3" {
		t.Errorf("P7.2: what was answered is %q, %q", text, name)
	}
	if _, e := Event("time x"); e != api.ErrBad {
		t.Errorf("P7.1: a text that is no name is taken")
	}
	if got, e := Event("drop -1.2.3"); got != (api.Event{Kind: api.Drop, ID: id(-1, 2, 3)}) || e != api.OK {
		t.Errorf("P7.2: behind a refused text, a name is %v, %d", got, e)
	}
}
