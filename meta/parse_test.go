package meta_test

import (
	"regexp"
	"strconv"
	"strings"
	"testing"

	"triptych/api"
	"triptych/meta"
)

// form is the form of a text: what it doesn't ask is whether it tells what is right.
var form = func() *regexp.Regexp {
	slot := `(empty|writing|staged|trial|confirmed|bad)(?::([1-9][0-9]*))?(?:@([1-9][0-9]*))?`
	return regexp.MustCompile(`\Agolden=` + slot + ` a=` + slot + ` b=` + slot + ` active=(golden|a|b)(?: floor=([1-9][0-9]*))?(?: cursor=([1-9][0-9]*))?(?: intent=([1-9][0-9]*))?\z`)
}()

// count is a number that stands there; 0 where none does, and -1 where it is too great for an int.
func count(s string) int {
	if s == "" {
		return 0
	}
	n, err := strconv.Atoi(s)
	if err != nil {
		return -1
	}
	return n
}

// told is what a text tells, by the tests' own reading of it.
func told(s string) (meta.Meta, api.Errno) {
	l := form.FindStringSubmatch(s)
	if l == nil {
		return meta.Meta{}, api.ErrForm
	}
	states := map[string]int{"empty": 0, "writing": 1, "staged": 2, "trial": 3, "confirmed": 4, "bad": 5}
	var m meta.Meta
	for i := range m.Slots {
		m.Slots[i] = meta.Slot{State: states[l[1+3*i]], Version: count(l[2+3*i]), Base: count(l[3+3*i])}
	}
	m.Active = map[string]int{"golden": 0, "a": 1, "b": 2}[l[10]]
	m.Floor, m.Cursor, m.Intent = count(l[11]), count(l[12]), count(l[13])
	if !right(m) {
		return meta.Meta{}, api.ErrForm
	}
	return m, api.OK
}

// parsed holds a Parse against the tests' own reading.
func parsed(t *testing.T, s string) api.Errno {
	t.Helper()
	want, err := told(s)
	if m, e := meta.Parse(s); m != want || e != err {
		t.Fatalf("%q: %v %v, want %v %v", s, m, e, want, err)
	}
	return err
}

// texts are some texts of what is right.
func texts() []string {
	return []string{
		"golden=confirmed a=empty b=empty active=golden",
		"golden=confirmed:4295098371 a=confirmed:12 b=trial:305@10 active=b floor=12 cursor=7 intent=130",
		"golden=confirmed a=trial@512 b=bad active=a floor=1",
		"golden=confirmed a=writing b=staged:281474976710655 active=golden cursor=281474976710655",
		"golden=confirmed a=bad b=confirmed active=b intent=1",
		"golden=confirmed a=staged b=writing active=golden floor=9 intent=66",
	}
}

// P17.1: words written out that are a text, and what they tell.
func TestParseWritten(t *testing.T) {
	want := meta.Meta{Active: 2, Floor: 12, Cursor: 7, Intent: 130}
	want.Slots[0] = meta.Slot{State: api.Confirmed, Version: 4295098371}
	want.Slots[1] = meta.Slot{State: api.Confirmed, Version: 12}
	want.Slots[2] = meta.Slot{State: api.Trial, Version: 305, Base: 10}
	if m, e := meta.Parse(texts()[1]); m != want || e != api.OK {
		t.Error(m, e)
	}
	for _, s := range texts() {
		if parsed(t, s) != api.OK {
			t.Error(s)
		}
	}
}

// P17.1: words that are no text, each wrong in one thing.
func TestParseWrong(t *testing.T) {
	for _, s := range []string{
		"", " ", "=", "golden", "golden=confirmed", "golden=confirmed a=empty b=empty", "golden=confirmed a=empty b=empty active=",
		"golden=confirmed a=empty b=empty active=golden ", " golden=confirmed a=empty b=empty active=golden", "golden=confirmed  a=empty b=empty active=golden",
		"golden=confirmed a=empty b=empty active=golden\n", "golden=confirmed\ta=empty b=empty active=golden", "golden=confirmed a=empty b=empty active=golden\x00",
		"Golden=confirmed a=empty b=empty active=golden", "golden=Confirmed a=empty b=empty active=golden", "golden=confirmed A=empty b=empty active=golden",
		"golden=confirmed b=empty a=empty active=golden", "a=empty golden=confirmed b=empty active=golden", "active=golden golden=confirmed a=empty b=empty",
		"golden=confirmed a=empty a=empty b=empty active=golden", "golden=confirmed a=empty b=empty active=golden active=golden",
		"golden=confirmed a=empty b=empty c=empty active=golden", "golden=confirmed a=empty b=empty active=c", "golden=confirmed a=empty b=empty active=0",
		"golden=4 a=0 b=0 active=golden", "golden=confirmed a= b=empty active=golden", "golden=confirmed a=none b=empty active=golden",
		"golden=confirmed a=staged:0 b=empty active=golden", "golden=confirmed a=staged: b=empty active=golden", "golden=confirmed a=staged:07 b=empty active=golden",
		"golden=confirmed a=staged:+7 b=empty active=golden", "golden=confirmed a=staged:-7 b=empty active=golden", "golden=confirmed a=staged:0x7 b=empty active=golden",
		"golden=confirmed a=staged:1_0 b=empty active=golden", "golden=confirmed a=staged:7:7 b=empty active=golden", "golden=confirmed a=staged:1.0.0 b=empty active=golden",
		"golden=confirmed a=staged:281474976710656 b=empty active=golden", "golden=confirmed a=staged:18446744073709551623 b=empty active=golden", "golden=confirmed a=staged:99999999999999999999999999 b=empty active=golden",
		"golden=confirmed a=trial:7@0 b=empty active=a", "golden=confirmed a=trial:7@ b=empty active=a", "golden=confirmed a=trial@3:7 b=empty active=a", "golden=confirmed a=trial:7@513 b=empty active=a", "golden=confirmed a=trial:7@3@3 b=empty active=a", "golden=confirmed a=trial:7@03 b=empty active=a",
		"golden=confirmed a=empty b=empty active=golden floor=0", "golden=confirmed a=empty b=empty active=golden floor=", "golden=confirmed a=empty b=empty active=golden floor", "golden=confirmed a=empty b=empty active=golden floor=-1", "golden=confirmed a=empty b=empty active=golden floor=281474976710656",
		"golden=confirmed a=empty b=empty active=golden cursor=3 floor=2", "golden=confirmed a=empty b=empty active=golden intent=3 cursor=2", "golden=confirmed a=empty b=empty floor=3 active=golden", "golden=confirmed a=empty b=empty active=golden cursor=3 cursor=3", "golden=confirmed a=empty b=empty active=golden other=3",
		"golden=confirmed a=empty:7 b=empty active=golden", "golden=confirmed a=writing:7 b=empty active=golden", "golden=confirmed a=bad:7 b=empty active=golden", "golden=confirmed a=confirmed:7@3 b=empty active=golden",
		"golden=confirmed a=trial:7@3 b=empty active=golden", "golden=confirmed a=trial:7@3 b=trial:8@4 active=a", "golden=confirmed a=staged:7 b=empty active=a", "golden=bad a=confirmed b=empty active=a", "golden=trial a=empty b=empty active=golden", "golden=confirmed a=empty b=empty active=b",
	} {
		if m, e := meta.Parse(s); m != (meta.Meta{}) || e != api.ErrForm {
			t.Errorf("%q: %v %v", s, m, e)
		}
		parsed(t, s)
	}
}

// P17.1: texts of which a letter is left out, or another one, or a letter is put between, or two are swapped.
func TestParseLetters(t *testing.T) {
	letters := "goldenabctivflrus=:@ 0123456789-+_.\n\x00\xffE"
	some := 0
	for _, s := range texts() {
		for i := range len(s) + 1 {
			var l []string
			for j := range len(letters) {
				l = append(l, s[:i]+letters[j:j+1]+s[i:])
				if i < len(s) {
					l = append(l, s[:i]+letters[j:j+1]+s[i+1:])
				}
			}
			l = append(l, s[:i], s[i:])
			if i < len(s) {
				l = append(l, s[:i]+s[i+1:])
			}
			if i+1 < len(s) {
				l = append(l, s[:i]+s[i+1:i+2]+s[i:i+1]+s[i+2:])
			}
			for _, x := range l {
				if parsed(t, x) == api.OK && x != s {
					some++
				}
			}
		}
	}
	if some < 100 {
		t.Error(some)
	}
}

// P17.1: words thrown together, each in a place where it may stand, or in another one.
func TestParseWords(t *testing.T) {
	d := dice{5}
	states := []string{"empty", "writing", "staged", "trial", "confirmed", "bad", "trial:7", "trial@3", "trial:7@3", "trial:7@512", "trial:7@513", "staged:8", "confirmed:9", "confirmed:281474976710655", "bad:1", "confirmed@1"}
	kinds := map[api.Errno]int{}
	for range 60000 {
		word := func(name string, l ...string) string { return name + "=" + l[d.below(len(l))] }
		words := []string{word("golden", "confirmed", "confirmed", "confirmed:5", states[d.below(len(states))]), word("a", states...), word("b", states...), word("active", "golden", "a", "b", "a", "b")}
		for _, name := range []string{"floor", "cursor", "intent"} {
			if d.below(2) == 0 {
				words = append(words, word(name, "1", "77", "281474976710655", "77", "1", "281474976710656", "0"))
			}
		}
		if d.below(8) == 0 {
			i, j := d.below(len(words)), d.below(len(words))
			words[i], words[j] = words[j], words[i]
		}
		kinds[parsed(t, strings.Join(words, " "))]++
	}
	if kinds[api.OK] < 1000 || kinds[api.ErrForm] < 1000 {
		t.Error(kinds)
	}
}

// P17.1: many words, and long ones, are no text either.
func TestParseLong(t *testing.T) {
	text := texts()[1]
	for _, s := range []string{
		strings.Repeat(" ", 1<<20), strings.Repeat("a", 1<<20), strings.Repeat("a=empty ", 1<<17), strings.Repeat("=", 1<<20),
		text + strings.Repeat(" ", 1<<20), text + strings.Repeat("0", 1<<20), strings.Repeat(text+" ", 1<<13), strings.Repeat("floor=1 ", 1<<16) + text,
	} {
		if m, e := meta.Parse(s); m != (meta.Meta{}) || e != api.ErrForm {
			t.Error(len(s), m, e)
		}
	}
}
