package compile_test

import (
	"fmt"
	"reflect"
	"slices"
	"strings"
	"testing"

	"firebell/api"
	"firebell/compile"
	"firebell/layout"
	"firebell/tree"
)

// sort is an item as it may be written at a place.
type sort struct {
	place, name string
	words       []string
	body        string // of a block
}

// sorts of items, each in the forms that it may have.
func sorts() []sort {
	const objective, rule = "{ target 99%; rule r page { long 1h; short 5m; factor 1; } }", "{ long 1h; short 5m; factor 1; }"
	return []sort{
		{"source", "objective", []string{"s"}, objective}, {"source", "notify", nil, "{ room 1; }"},
		{"objective", "target", []string{"99%"}, ""}, {"objective", "grain", []string{"1m"}, ""}, {"objective", "late", []string{"0s"}, ""}, {"objective", "rolling", []string{"1h"}, ""},
		{"objective", "calendar", []string{"month"}, ""}, {"objective", "calendar", []string{"quarter"}, ""},
		{"objective", "label", []string{"s", `"x"`}, ""}, {"objective", "rule", []string{"s", "page"}, rule}, {"objective", "rule", []string{"s", "ticket"}, rule},
		{"rule", "long", []string{"1h"}, ""}, {"rule", "short", []string{"1h"}, ""}, {"rule", "factor", []string{"14.4"}, ""}, {"rule", "factor", []string{"3"}, ""}, {"rule", "for", []string{"1s"}, ""}, {"rule", "keep", []string{"0s"}, ""},
		{"notify", "room", []string{"8"}, ""}, {"notify", "reserve", []string{"0"}, ""}, {"notify", "first", []string{"2s"}, ""}, {"notify", "cap", []string{"10m"}, ""}, {"notify", "repeat", []string{"4h"}, ""},
	}
}

// as it is written.
func (s sort) item() string { return s.written(s.words, s.body != "") }

// written with these words, as a block or none.
func (s sort) written(words []string, block bool) string {
	head := strings.Join(append([]string{s.name}, words...), " ")
	switch {
	case !block:
		return head + ";"
	case s.body != "":
		return head + " " + s.body
	}
	return head + " {}"
}

// framed: an item at a place, beside what is needed there but what begins with a name; number is that of the Form of the whole that misses one.
func framed(place, but, item string, number int) string {
	lack := ""
	if number > 0 {
		lack = fmt.Sprintf("<%d Form>", number)
	}
	all := item
	for _, line := range map[string][]string{"objective": {"target 99%;", "rule r page { long 1h; short 5m; factor 1; }"}, "rule": {"long 1h;", "short 5m;", "factor 1;"}}[place] {
		if first, _, _ := strings.Cut(line, " "); first != but {
			all += "\n\t" + line
		}
	}
	switch place {
	case "objective":
		return lack + "objective o { " + all + "\n}\n"
	case "rule":
		return "objective o {\n target 99%;\n " + lack + "rule r page { " + all + "\n} }"
	case "notify":
		return "notify { " + all + "\n}"
	}
	return all
}

// wantMissed: an item has this fault, and where its like is needed the whole misses it.
func wantMissed(t *testing.T, s sort, fault, item string) {
	t.Helper()
	number := 0
	if slices.Contains([]string{"target", "rule", "long", "short", "factor"}, s.name) {
		number = 2
	}
	wantFaults(t, framed(s.place, s.name, "<1 "+fault+">"+item, number))
}

// wantBeside: an item has this fault, beside all that is needed at the place.
func wantBeside(t *testing.T, place, fault, item string) {
	t.Helper()
	wantFaults(t, framed(place, "", "<1 "+fault+">"+item, 0))
}

var places = []string{"source", "objective", "rule", "notify"}

// P16.1: each item where it may stand, and where it may not.
func TestPlaces(t *testing.T) {
	for _, s := range sorts() {
		wantGood(t, framed(s.place, s.name, s.item(), 0))
		for _, place := range places {
			item := s.item()
			if place == "rule" && s.name == "objective" {
				item = "objective s { target 99%; }" // Its rule's items would be too deep.
			}
			if place != s.place {
				wantBeside(t, place, "Name", item)
			}
		}
	}
	// A name that may stand nowhere, in whatever form.
	for _, name := range []string{"foo", "é", "Objective", "objectives", "TARGET", "targe", "notify1", "page", "ticket", "month", "quarter", "n", "o", "r", "goal", strings.Repeat("a", 24)} {
		for _, place := range places {
			for _, rest := range []string{";", "{}", " 1;", " s { target 99%; foo; }", ` s "x";`, " s page { long 0s; }", " 1 2 3 4 5 6;", " 1%;", " month;", " 0s;"} {
				wantBeside(t, place, "Name", name+rest)
			}
		}
	}
	wantFaults(t, `objective o { target 1%; rule r page { `+bothWindows+` <1 Name>label a "x"; <2 Name>rule s page { long 0s; no; } <3 Name>objective p { no; } } } <4 Name>target 1%; <5 Name>rule a page;`)
}

// wordsOfAll: one word of each kind, as it is written, and others of these kinds.
func wordsOfAll() []string {
	return []string{"b", "page", "month", `""`, `"b"`, `"page"`, "0", "1", "7", "0.5", "14.4", "0%", "99.9%", "0s", "1m", "1h30m"}
}

// P16.1: each item with each row of up to three words, as a block and as none.
func TestForms(t *testing.T) {
	rows := [][]string{nil}
	for _, a := range wordsOfAll() {
		rows = append(rows, []string{a})
		for _, b := range wordsOfAll() {
			rows = append(rows, []string{a, b}, []string{a, b, a})
		}
	}
	for _, s := range sorts() {
		for _, words := range rows {
			for _, block := range []bool{true, false} {
				item := s.written(words, block)
				if formsOfPlaces[s.place][s.name].MatchString(head(parsed(t, item)[0])) {
					source := framed(s.place, s.name, item, 0)
					c, faults := model(parsed(t, source))
					wantRead(t, source, c, faults)
					continue
				}
				wantMissed(t, s, "Form", item)
			}
		}
	}
}

// kindOf a word, as it is written.
func kindOf(t *testing.T, word string) int { return parsed(t, "a "+word+";")[0].Words[0].Kind }

// P16.1: each item with no word, with one too many, with a word of each other kind in the place of each, and as a block, or none, against what is said.
func TestForm(t *testing.T) {
	for _, s := range sorts() {
		block := s.body != ""
		wantMissed(t, s, "Form", s.written(s.words, !block))
		for n := range s.words {
			wantMissed(t, s, "Form", s.written(s.words[:n], block))
		}
		for _, more := range wordsOfAll() {
			wantMissed(t, s, "Form", s.written(append(slices.Clone(s.words), more), block))
			wantMissed(t, s, "Form", s.written(append([]string{more}, s.words...), block))
		}
		wantMissed(t, s, "Form", s.written([]string{"1", "2", "3", "4", "5", "6"}, block))
		for n := range s.words {
			for _, other := range wordsOfAll() {
				kind := kindOf(t, other)
				if kind == kindOf(t, s.words[n]) || s.name == "factor" && (kind == api.TokCount || kind == api.TokFactor) {
					continue
				}
				words := slices.Clone(s.words)
				words[n] = other
				wantMissed(t, s, "Form", s.written(words, block))
			}
		}
	}
	wantFaults(t, "<1 Form>notify;")
	wantFaults(t, "<1 Form>notify a {}")
	wantFaults(t, "<1 Form>objective {}")
	wantFaults(t, "<1 Form>objective a;")
	wantFaults(t, `<1 Form>objective "a" {}`)
	wantFaults(t, with("<1 Form>rule r {}"))
	wantFaults(t, with("<1 Form>rule page r {}"))
	wantFaults(t, with("<1 Form>rule r page;"))
	wantFaults(t, with(`<1 Form>label "x" r;`))
	wantFaults(t, with(`<1 Form>label r x;`))
	wantFaults(t, with(`<1 Form>label r "x" {}`))
	wantFaults(t, with("<1 Form>grain 60;"))
	wantFaults(t, with("<1 Form>late 0;"))
	wantFaults(t, "notify { <1 Form>room 8s; <2 Form>first 8; }")
}

// P16.1: what may stand once, a second time: with the same number and with another one, and where the first one doesn't count.
func TestKnownOnce(t *testing.T) {
	others := map[string]string{"target": "98%", "grain": "30s", "late": "1s", "rolling": "2h", "calendar": "month", "long": "2h", "short": "2m", "factor": "2", "for": "2s", "keep": "2s", "room": "9", "reserve": "1", "first": "3s", "cap": "11m", "repeat": "5h"}
	wrong := map[string]string{"target": "0%", "grain": "0s", "late": "2d", "rolling": "0s", "calendar": "day", "long": "0s", "short": "0s", "factor": "0", "for": "8d", "keep": "8d", "room": "0", "reserve": "65", "first": "0s", "cap": "0s", "repeat": "31d"}
	for _, s := range sorts() {
		if s.body != "" || s.name == "label" {
			continue
		}
		other, bad := s.written([]string{others[s.name]}, false), s.written([]string{wrong[s.name]}, false)
		for _, second := range []string{s.item(), other, bad} {
			if second == bad && s.name == "calendar" {
				continue // That one is Form.
			}
			wantFaults(t, framed(s.place, s.name, s.item()+" <1 Known>"+second, 0))
			wantFaults(t, framed(s.place, s.name, s.item()+" <1 Known>"+second+" <2 Known>"+s.item(), 0))
		}
		fault := "Range"
		if s.name == "calendar" {
			fault = "Form"
		}
		// The first one doesn't count, for its number or for its form; then the second one does.
		wantFaults(t, framed(s.place, s.name, "<1 "+fault+">"+bad+" "+s.item(), 0))
		wantFaults(t, framed(s.place, s.name, "<1 "+fault+">"+bad+" "+s.item()+" <2 Known>"+other, 0))
		wantFaults(t, framed(s.place, s.name, "<1 "+fault+">"+bad+" <2 "+fault+">"+bad+" "+s.item()+" <3 Known>"+s.item(), 0))
		wantFaults(t, framed(s.place, s.name, "<1 Form>"+s.name+"; "+s.item()+" <2 Known>"+s.item(), 0))
		wantFaults(t, framed(s.place, s.name, "<1 Form>"+s.written(s.words, true)+" "+s.item()+" <2 Known>"+s.item(), 0))
		// In another list there may be another one.
		source := framed(s.place, s.name, s.item(), 0)
		if s.place != "notify" {
			wantGood(t, source+strings.ReplaceAll(source, "objective o", "objective p"))
		}
	}
	wantFaults(t, "notify {} <1 Known>notify {}")
	wantFaults(t, "notify { room 8; } objective o { target 1%; rule r page { "+bothWindows+" } } <1 Known>notify { room 8; }")
	wantFaults(t, "notify { <1 Range>room 0; } <2 Known>notify { room 0; no; }")
	wantFaults(t, "<1 Form>notify; notify {} <2 Known>notify {}")
	wantFaults(t, "<1 Form>notify a {} notify {}")
	wantGood(t, "objective o { target 1%; rule r page { "+bothWindows+" for 1s; } rule s page { "+bothWindows+" for 1s; } }")
}

// P16.1: the second name again.
func TestKnownNames(t *testing.T) {
	wantFaults(t, named(anObjective, "a")+"<1 Known>"+named(anObjective, "a"))
	wantFaults(t, named(anObjective, "a", "b")+"<1 Known>"+named(anObjective, "a")+"<2 Known>"+named(anObjective, "b", "c"))
	wantFaults(t, "objective a { <1 Name>no; target 1%; rule r page { "+bothWindows+" } } <2 Known>objective a { no; }")
	// One that counts, with no target and no rule.
	wantFaults(t, "<1 Form>objective a {} <2 Known>objective a {}")
	wantFaults(t, "<1 Form>objective a; "+named(anObjective, "a")+"<2 Known>objective a {}")
	wantFaults(t, "<1 Form>objective a a {} "+named(anObjective, "a"))
	for _, a := range []string{"page", "ticket"} {
		for _, b := range []string{"page", "ticket"} {
			wantFaults(t, "objective o { target 1%; rule r "+a+" { "+bothWindows+" } <1 Known>rule r "+b+" { "+bothWindows+" } }")
			wantFaults(t, "objective o { target 1%; rule r "+a+" { "+bothWindows+" } rule s "+b+" { "+bothWindows+" } <1 Known>rule r "+b+" { "+bothWindows+" } <2 Known>rule s "+a+" {} }")
			wantFaults(t, "objective o { target 1%; <1 Form>rule r "+a+" {} <2 Known>rule r "+b+" {} }")
			// The first one doesn't count.
			wantFaults(t, "objective o { target 1%; <1 Form>rule r "+a+"; rule r "+b+" { "+bothWindows+" } <2 Known>rule r "+a+" {} }")
			wantFaults(t, "objective o { target 1%; <1 Form>rule r { no; } rule r "+b+" { "+bothWindows+" } }")
		}
	}
	wantFaults(t, with(`label a "x"; <1 Known>label a "x";`))
	wantFaults(t, with(`label a "x"; <1 Known>label a "y"; label b "x"; <2 Known>label b ""; <3 Known>label a "x";`))
	wantFaults(t, with(`<1 Form>label a; <2 Form>label a x; <3 Form>label a "x" {} label a "x"; <4 Known>label a "x";`))
	wantFaults(t, with(`label é "x"; label e "x"; <1 Known>label é "x";`))
}

// P16.1: one too many, also where one of those ahead doesn't count.
func TestLong(t *testing.T) {
	six := named(anObjective, "a", "b", "c", "d", "e", "f")
	wantFaults(t, six+"<1 Long>"+named(anObjective, "g"))
	wantFaults(t, six+"<1 Long>objective g {} <2 Long>objective h { no; } <3 Known>objective a {} <4 Form>objective i; <5 Form>objective a;")
	wantFaults(t, "<1 Form>objective g; "+six+"<2 Long>"+named(anObjective, "g"))
	wantFaults(t, named(anObjective, "a", "b", "c")+"<1 Known>"+named(anObjective, "a")+named(anObjective, "d", "e", "f")+"<2 Long>"+named(anObjective, "g"))
	wantFaults(t, named(anObjective, "a", "b", "c")+"<1 Known>"+named(anObjective, "a")+named(anObjective, "d", "e", "f"))
	wantFaults(t, "<1 Form>objective a {} "+named(anObjective, "b", "c", "d", "e", "f")+"<2 Long>objective g {}")
	labels := named(aLabel, "a", "b", "c", "d")
	wantFaults(t, with(labels+"<1 Long>"+named(aLabel, "e")))
	wantFaults(t, with(labels+`<1 Long>label e ""; <2 Long>label e ""; <3 Known>label a ""; <4 Form>label f; <5 Form>label a 1;`))
	wantFaults(t, with(`<1 Form>label a; `+labels+`<2 Long>label e "";`))
	wantFaults(t, with(named(aLabel, "a", "b")+`<1 Known>label b ""; `+named(aLabel, "c", "d")+`<2 Long>label e "";`))
	wantFaults(t, with(named(aLabel, "a", "b")+`<1 Known>label b ""; `+named(aLabel, "c", "d")))
	rules := named(aRule, "a", "b", "c", "d")
	wantFaults(t, "objective o { target 1%; "+rules+"<1 Long>"+named(aRule, "e")+"}")
	wantFaults(t, "objective o { target 1%; "+rules+"<1 Long>rule e page {} <2 Long>rule f ticket { no; } <3 Known>rule a page {} <4 Form>rule g {} <5 Form>rule a page; }")
	wantFaults(t, "objective o { target 1%; <1 Form>rule e page; "+rules+"<2 Long>rule e page {} }")
	wantFaults(t, "objective o { target 1%; "+named(aRule, "a", "b", "c")+"<1 Known>rule c page {} "+named(aRule, "d")+"<2 Long>rule e page {} }")
	wantFaults(t, "objective o { target 1%; "+named(aRule, "a", "b", "c")+"<1 Known>rule c page {} "+named(aRule, "d")+"}")
	wantFaults(t, "objective o { target 1%; <1 Form>rule a page {} "+named(aRule, "b", "c", "d")+"<2 Long>rule e page {} }")
	// Others aren't counted with them, nor those of other lists.
	wantGood(t, "notify {} "+six)
	wantGood(t, "objective o { target 1%; "+labels+rules+"}"+"objective p { target 1%; "+rules+labels+"}")
	wantFaults(t, "<1 Name>label a; <2 Name>rule a page {} "+six+"notify {} <3 Name>target 1%;")
	wantFaults(t, "objective o { target 1%; <1 Name>objective a {} <2 Name>notify {} "+rules+labels+"grain 1m; late 1s; rolling 1m; calendar month; }")
}

// P16.1: of faults that hold at once on one item the first in the chapter's order is told.
func TestFirstFault(t *testing.T) {
	// Name ahead of all else.
	wantFaults(t, "<1 Name>target 0%; <2 Name>target 0; <3 Name>target; notify {} <4 Name>room 0; <5 Name>room {}")
	// Form ahead of Known, Long and Range.
	wantFaults(t, with("<1 Form>target 0;"))
	wantFaults(t, with("grain 1m; <1 Form>grain 0; <2 Form>grain 0s 0s; <3 Form>grain 0s {}"))
	wantFaults(t, with(`label a ""; label b ""; label c ""; label d ""; <1 Form>label a; <2 Form>label e; <3 Form>label a "" "";`))
	wantFaults(t, "notify { room 1; <1 Form>room 0s; <2 Form>room 65 1; }")
	wantFaults(t, "<1 Range>notify { room 1; reserve 2; } <2 Form>notify 0 {}")
	wantFaults(t, "notify { <1 Form>room 0 0; <2 Form>cap 0s {} }")
	// Known ahead of Long and Range.
	wantFaults(t, with("<1 Known>target 0%; <2 Known>target 100%; grain 1m; <3 Known>grain 0s; late 1s; <4 Known>late 2d; rolling 1m; <5 Known>rolling 0s;"))
	wantFaults(t, "objective o { target 1%; rule r page { "+bothWindows+" <1 Known>long 0s; <2 Known>short 401d; <3 Known>factor 0; <4 Known>factor 0.0; for 1s; <5 Known>for 8d; keep 1s; <6 Known>keep 8d; } }")
	wantFaults(t, "notify { room 1; <1 Known>room 0; reserve 1; <2 Known>reserve 65; first 1s; <3 Known>first 0s; cap 1m; <4 Known>cap 0s; repeat 1s; <5 Known>repeat 31d; }")
	wantFaults(t, named(anObjective, "a", "b", "c", "d", "e", "f")+"<1 Known>objective f {} <2 Long>objective g {}")
	wantFaults(t, with(`label a ""; label b ""; label c ""; label d ""; <1 Known>label d ""; <2 Long>label e "";`))
	wantFaults(t, with(named(aRule, "a", "b", "c")+"<1 Known>rule o page {} <2 Long>rule d page {}"))
}

// P16.1: what is within an item with a fault isn't looked at; what is within one that counts is told behind it, and ahead of the whole.
func TestKidsFaults(t *testing.T) {
	const bad = "{ no; target 0%; rule r page { no; } rule r page { } room 0; grain 0s; no { no; } }"
	wantFaults(t, "<1 Name>no "+bad)
	wantFaults(t, "<1 Form>objective "+bad)
	wantFaults(t, "<1 Form>objective a b "+bad)
	wantFaults(t, named(anObjective, "a")+"<1 Known>objective a "+bad)
	wantFaults(t, named(anObjective, "a", "b", "c", "d", "e", "f")+"<1 Long>objective g "+bad)
	wantFaults(t, "<1 Form>notify a { room 0; no; } notify {} <2 Known>notify { room 0; no; reserve 20; }")
	wantFaults(t, with("<1 Form>rule page { no; long 0s; } <2 Form>rule s month { no; } <3 Known>rule o page { no; long 0s; } <4 Name>notify { no; } <5 Form>grain 1m { no; } <6 Form>calendar month { no; }"))
	wantFaults(t, "objective o { target 1%; "+named(aRule, "a", "b", "c", "d")+"<1 Long>rule e page { no; long 0s; } }")
	wantFaults(t, "<6 Form>objective o { <1 Name>no; <2 Range>target 0%; <4 Form>rule r page { <3 Name>no; } <5 Name>no; }")
	wantFaults(t, "objective o { <2 Range>rule r page { long 1m; <1 Name>no; short 2m; factor 1; } <3 Name>no; target 1%; <5 Form>rule s page { <4 Range>long 0s; short 1m; factor 1; } }\n<7 Range>notify { room 1; <6 Name>no; reserve 2; }")
	// A block that counts is known, whatever is wrong within it.
	wantFaults(t, "<2 Form>objective o { <1 Name>no; } <3 Known>objective o { no; }\n<5 Range>notify { <4 Name>no; cap 1s; } <6 Known>notify { no; }")
	wantFaults(t, "objective o { target 1%; <2 Form>rule r page { <1 Name>no; } <3 Known>rule r ticket { no; } }")
}

// P16.1: what is told of a rule's whole.
func TestWholeRule(t *testing.T) {
	lines := []string{"long 1h;", "short 5m;", "factor 1;"}
	for which := range 8 {
		kids := "for 1m; "
		for i, line := range lines {
			if which>>i&1 > 0 {
				kids += line + " "
			}
		}
		if which == 7 {
			wantGood(t, "objective o { target 1%; rule r page { "+kids+"} }")
			continue
		}
		wantFaults(t, "objective o { target 1%; <1 Form>rule r page { "+kids+"} }")
		wantFaults(t, "objective o { target 1%; <1 Form>rule r page { "+kids+"} rule s page { "+bothWindows+" } <2 Form>rule t ticket { "+kids+"} }")
	}
	// There are some, but none that counts.
	for _, s := range []string{"<1 Range>long 0s; short 1m; factor 1;", "long 1m; <1 Range>short 0s; factor 1;", "<1 Range>short 401d; long 1m; factor 1;", "long 1m; short 1m; <1 Range>factor 0;", "<1 Range>factor 1001; long 1m; short 1m;", "<1 Form>long 60; short 1m; factor 1;", "long 1m; <1 Form>short; factor 1;", "long 1m; short 1m; <1 Form>factor 1%;", "long 1m; short 1m; <1 Form>factor 1 {}"} {
		wantFaults(t, "objective o { target 1%; <2 Form>rule r page { "+s+" } }")
	}
	wantFaults(t, "objective o { target 1%; <4 Form>rule r page { <1 Range>long 0s; <2 Range>short 0s; <3 Range>factor 0; } }")
	wantFaults(t, "objective o { target 1%; <5 Form>rule r page { <1 Range>long 0s; <2 Range>long 401d; short 1m; <3 Form>factor; <4 Range>factor 0; } }")
	// Short above long; as long as long is right.
	wantFaults(t, "objective o { target 1%; grain 1s; <1 Range>rule r page { long 1s; short 2s; factor 1; } }")
	wantFaults(t, "objective o { target 1%; <1 Range>rule r page { short 400d; factor 1; long 1m; } <2 Range>rule s page { factor 1; long 9m; short 10m; } }")
	wantFaults(t, "objective o { target 1%; <2 Range>rule r page { long 5m; short 10m; factor 1; <1 Known>long 10m; } }")
	wantFaults(t, "objective o { target 1%; <2 Range>rule r page { long 5m; factor 1; short 10m; <1 Known>short 5m; } }")
	for _, n := range []string{"1m", "2m", "400d"} {
		wantGood(t, "objective o { target 1%; rule r page { long "+n+"; short "+n+"; factor 1; } }")
	}
	// Form is told ahead of it, and alone.
	wantFaults(t, "objective o { target 1%; <1 Form>rule r page { long 1m; short 2m; } }")
	wantFaults(t, "objective o { target 1%; <2 Form>rule r page { long 1m; short 2m; <1 Range>factor 0; } }")
	// For and keep needn't be there.
	wantFaults(t, "objective o { target 1%; rule r page { "+bothWindows+" <1 Range>for 8d; <2 Range>keep 8d; } }")
}

// P16.1: an objective with no target, or no rule that counts.
func TestWholeObjective(t *testing.T) {
	const rule = "rule r page { " + bothWindows + " } "
	wantFaults(t, "<1 Form>objective o {}")
	wantFaults(t, "<1 Form>objective o { target 1%; }")
	wantFaults(t, "<1 Form>objective o { "+rule+"}")
	wantFaults(t, "\n# é\n\t<1 Form>objective o { grain 1m; late 1s; rolling 1m; calendar month;\n label a \"\"; }")
	wantFaults(t, "<1 Form>objective o {} <2 Form>objective p { target 1%; } "+named(anObjective, "q")+"<3 Form>objective r { "+rule+"}")
	// There are some, but none that counts.
	for _, s := range []string{"<1 Range>target 0%;", "<1 Range>target 100%;", "<1 Form>target 1;", "<1 Form>target;", "<1 Form>target 1% {}", "<1 Name>targets 1%;"} {
		wantFaults(t, "<2 Form>objective o { "+s+" "+rule+"}")
	}
	wantFaults(t, "<3 Form>objective o { "+rule+"<1 Range>target 0%; <2 Range>target 100%; }")
	for _, s := range []string{"<1 Form>rule r page;", "<1 Form>rule r { " + bothWindows + " }", "<1 Form>rule r year { " + bothWindows + " }", "<1 Form>rule page { " + bothWindows + " }", "<1 Name>rules r page { " + bothWindows + " }"} {
		wantFaults(t, "<2 Form>objective o { target 1%; "+s+" }")
	}
	// A rule counts, whatever is wrong within it; so there is one.
	wantFaults(t, "objective o { target 1%; <1 Form>rule r page {} }")
	wantFaults(t, "objective o { target 1%; <2 Form>rule r page { <1 Name>no; } }")
	// One Form, with neither.
	wantFaults(t, "<3 Form>objective o { <1 Range>target 0%; <2 Form>rule r page; }")
}

// P16.1: windows that are no multiples of the grain.
func TestMultiples(t *testing.T) {
	rule := func(name, long, short string) string {
		return "rule " + name + " page { long " + long + "; short " + short + "; factor 1; } "
	}
	wantGood(t, "objective o { target 1%; "+rule("r", "1m", "1m")+rule("s", "3m", "2m")+"rolling 1m; }")
	wantGood(t, "objective o { target 1%; "+rule("r", "77s", "7s")+"grain 7s; rolling 70s; }")
	wantGood(t, "objective o { target 1%; grain 86400s; "+rule("r", "400d", "1d")+"rolling 400d; }")
	wantGood(t, "objective o { target 1%; grain 1s; "+rule("r", "61s", "59s")+"rolling 1s; }")
	// The grain is 60, where nothing is said of it.
	wantFaults(t, "objective o { target 1%; <1 Range>"+rule("r", "61s", "1m")+"}")
	wantFaults(t, "objective o { target 1%; <1 Range>"+rule("r", "1m", "59s")+"}")
	wantFaults(t, "objective o { target 1%; <1 Range>"+rule("r", "90s", "30s")+"}")
	// Long, short, or both of one rule: told once; each rule of several, in order.
	wantFaults(t, "objective o { target 1%; grain 10s; <1 Range>"+rule("r", "25s", "15s")+rule("s", "20s", "10s")+"<2 Range>"+rule("t", "25s", "10s")+"<3 Range>"+rule("u", "20s", "15s")+"}")
	wantFaults(t, "objective o { target 1%; <1 Range>"+rule("b", "5s", "5s")+rule("c", "10s", "10s")+"<2 Range>"+rule("a", "11s", "1s")+"grain 10s; }")
	wantFaults(t, "objective o { target 1%; grain 1d; <1 Range>"+rule("r", "1d", "1h")+"<2 Range>"+rule("s", "86401s", "1d")+"}")
	wantFaults(t, "objective o { target 1%; grain 2m; <1 Range>"+rule("r", "1m", "1m")+"}")
	// It is the grain that counts; where none does it is 60.
	wantFaults(t, "objective o { target 1%; <1 Range>grain 0s; "+rule("r", "1m", "1m")+"<2 Range>"+rule("s", "10s", "10s")+"}")
	wantFaults(t, "objective o { target 1%; <1 Range>grain 86401s; <2 Form>grain 10; <3 Form>grain 10s {} "+rule("r", "2m", "1m")+"<4 Range>"+rule("s", "70s", "10s")+"}")
	wantFaults(t, "objective o { target 1%; <1 Range>grain 0s; grain 10s; <2 Known>grain 7s; "+rule("r", "70s", "10s")+"<3 Range>"+rule("s", "77s", "7s")+"}")
	wantFaults(t, "objective o { target 1%; grain 10s; <1 Known>grain 7s; "+rule("r", "70s", "10s")+"<2 Range>"+rule("s", "77s", "7s")+"rolling 10s; }")
	// A rule's item that doesn't count is no matter.
	wantFaults(t, "objective o { target 1%; <2 Form>rule r page { <1 Range>long 34560001s; short 1m; factor 1; } }")
	wantFaults(t, "objective o { target 1%; <2 Form>rule r page { <1 Range>short 34560001s; factor 1; } }")
	wantFaults(t, "objective o { target 1%; rule r page { long 1m; <1 Known>long 61s; short 1m; <2 Known>short 59s; factor 1; } }")
	wantFaults(t, "objective o { target 1%; <1 Form>rule r page; <2 Form>rule r year { long 61s; short 1s; factor 1; } "+rule("s", "1m", "1m")+"<3 Known>"+rule("s", "61s", "1s")+"}")
	// A rule has a fault of its own, and one of its windows counts.
	wantFaults(t, "objective o { target 1%; <1 Form><2 Range>rule r page { long 61s; } }")
	wantFaults(t, "objective o { target 1%; <1 Form><2 Range>rule r page { short 61s; } }")
	wantFaults(t, "objective o { target 1%; <2 Form><3 Range>rule r page { <1 Range>long 0s; short 61s; factor 1; } }")
	wantFaults(t, "objective o { target 1%; <2 Form><3 Range>rule r page { long 59s; <1 Form>short 61; factor 1; } }")
	wantFaults(t, "objective o { target 1%; <2 Form><3 Range>rule r page { long 61s; short 1m; <1 Range>factor 0; } }")
	wantFaults(t, "objective o { target 1%; <1 Range><3 Range>rule r page { long 59s; short 61s; factor 1; } <2 Form><4 Range>rule s page { short 1s; } }")
	wantFaults(t, "objective o { target 1%; <2 Range>rule r page { <1 Name>no; long 61s; short 61s; factor 1; } }")
	// The objective's own Form is told ahead of it, and rolling behind it.
	wantFaults(t, "<1 Form><3 Range>objective o { rolling 61s; <2 Range>"+rule("r", "61s", "1m")+"}")
	wantFaults(t, "<3 Form><6 Range>objective o { <1 Range>target 0%; rolling 1s; <4 Range>"+rule("r", "61s", "1m")+"<2 Name>no; <5 Range>"+rule("s", "1m", "1s")+"}")
	// Rolling.
	for _, s := range []string{"1s", "59s", "61s", "90s", "399d59s"} {
		wantFaults(t, "<1 Range>objective o { target 1%; "+rule("r", "1m", "1m")+"rolling "+s+"; }")
		wantFaults(t, "<1 Range>objective o { rolling "+s+"; target 1%; grain 1m; "+rule("r", "1m", "1m")+"}")
	}
	wantFaults(t, "<1 Form><2 Range>objective o { target 1%; rolling 1s; }")
	wantFaults(t, "<1 Range>objective o { target 1%; rolling 70s; grain 1h; "+rule("r", "1h", "1h")+"}")
	wantFaults(t, "<3 Range>objective o { target 1%; rolling 70s; <1 Known>rolling 1m; <2 Range>grain 0s; "+rule("r", "1m", "1m")+"}")
	wantFaults(t, "objective o { target 1%; <1 Range>rolling 34560001s; "+rule("r", "1m", "1m")+"}")
	wantFaults(t, "objective o { target 1%; <1 Range>rolling 0s; <2 Form>rolling 61; rolling 1m; "+rule("r", "1m", "1m")+"}")
}

// P16.1: reserve above room, and cap below first.
func TestWholeNotify(t *testing.T) {
	for _, s := range []string{
		"room 1; reserve 2;", "reserve 64; room 63;", "room 64; reserve 64; cap 5m; first 301s;", "first 2s; cap 1s;", "cap 6d; first 1d; reserve 17;",
		// What isn't said holds as it is.
		"reserve 17;", "reserve 64;", "cap 9s;", "cap 1s;", "first 301s;", "first 1d;",
		// Both are one.
		"room 1; reserve 2; first 2s; cap 1s;", "reserve 17; cap 9s;", "first 1d; room 63; reserve 64;",
	} {
		wantFaults(t, "<1 Range>notify { "+s+" }")
		wantFaults(t, "\n "+named(anObjective, "o")+"\t<2 Range>notify { "+s+" <1 Name>no; }\n<3 Form>objective p {}")
	}
	for _, s := range []string{"room 1; reserve 1;", "reserve 64; room 64;", "reserve 16;", "room 1;", "first 5m;", "cap 10s;", "first 1s; cap 1s;", "first 1d; cap 1d;", "first 1d; cap 7d;", "reserve 0; room 1;"} {
		wantGood(t, "notify { "+s+" }")
	}
	// What has a fault isn't said.
	wantFaults(t, "notify { <1 Range>room 65; reserve 16; <2 Range>cap 8d; first 5m; }")
	wantFaults(t, "<2 Range>notify { <1 Range>room 65; reserve 17; }")
	wantFaults(t, "<2 Range>notify { cap 9s; <1 Range>first 0s; }")
	wantFaults(t, "<3 Range>notify { room 1; <1 Known>room 2; reserve 2; <2 Known>reserve 1; }")
	wantFaults(t, "notify { reserve 1; <1 Known>reserve 17; <2 Range>first 86401s; }")
	wantFaults(t, "notify { <1 Form>reserve 17s; <2 Form>first 301; }")
}

// P16.1: several faults in all of it, in their order.
func TestSeveral(t *testing.T) {
	wantFaults(t, `
<1 Name>rule r page { long 0s; }
<2 Form>objective a;
<12 Form><15 Range>objective a { # é
	<3 Range>target 100%; label é "é"; <4 Name>é;
	<6 Form><13 Range>rule r page { long 61s; <5 Form>short 5; short 1m; }
	<7 Known>rule r ticket { no; }
	<10 Range><14 Range>rule s ticket { short 90s; <8 Range>factor 0; long 1m; factor 1; <9 Known>long 2m; }
	<11 Form>label x; rolling 61s;
}
<16 Known>objective a { no; }
	<19 Range>notify { <17 Range>room 0; <18 Form>repeat 0; reserve 17; }
<20 Known>notify { room 0; }
objective b { target 1%; rule r page { `+bothWindows+` } }
<23 Form>objective c { <21 Form>label "a"; <22 Name>long 1m; target 1%; }
`)
}

// wantNotRight: there is one fault alone, and it has no place.
func wantNotRight(t *testing.T, l []api.Item) {
	t.Helper()
	c, f := compile.Compile(l)
	if !reflect.DeepEqual(c, api.Config{}) || len(f) != 1 || f[0] != (api.Fault{Code: api.Form}) {
		t.Errorf("%s\nis compiled as %v, %v", shown(modelText(l[:min(len(l), 3)])), c, f)
	}
}

// P16.1: of trees that aren't right there is one fault, whatever else is wrong with them.
func TestNotRight(t *testing.T) {
	good := func() []api.Item { return parsed(t, "\n"+with(`label a "x";`)+" notify { room 8; }") }
	wantTree(t, good(), wantGood(t, with(`label a "x";`)+" notify { room 8; }"), nil)
	name := api.Tok{Kind: api.TokName, Text: "a", At: api.Spot{Line: 3, Col: 4}}
	wrong := map[string]func(l []api.Item){
		"name":        func(l []api.Item) { l[0].Name = "1" },
		"no name":     func(l []api.Item) { l[1].Name = "" },
		"bad name":    func(l []api.Item) { l[0].Kids[0].Name = "a\xff" },
		"long name":   func(l []api.Item) { l[0].Kids[1].Kids[0].Name = strings.Repeat("a", 25) },
		"words":       func(l []api.Item) { l[0].Words = slices.Repeat([]api.Tok{name}, 7) },
		"kind":        func(l []api.Item) { l[0].Words[0].Kind = api.TokStop },
		"no kind":     func(l []api.Item) { l[0].Words[0].Kind = 10 },
		"below":       func(l []api.Item) { l[0].Words[0].Kind = -1 },
		"end":         func(l []api.Item) { l[0].Words[0] = api.Tok{} },
		"word's name": func(l []api.Item) { l[0].Words[0].Text = "a-" },
		"word's N":    func(l []api.Item) { l[0].Words[0].N = 1 },
		"share":       func(l []api.Item) { l[0].Kids[0].Words[0].N = 1000001 },
		"share's":     func(l []api.Item) { l[0].Kids[0].Words[0].Text = "99%" },
		"span":        func(l []api.Item) { l[0].Kids[1].Kids[0].Words[0].N = api.MaxTick + 1 },
		"text":        func(l []api.Item) { l[0].Kids[2].Words[1].Text = strings.Repeat("a", 121) },
		"bad text":    func(l []api.Item) { l[0].Kids[2].Words[1].Text = "\x80" },
		"kids":        func(l []api.Item) { l[0].Block = false },
		"kids of one": func(l []api.Item) { l[0].Kids[0].Kids = []api.Item{{Name: "a"}} },
		"deep": func(l []api.Item) {
			l[0].Kids[1].Kids[0] = api.Item{Name: "a", Block: true, Kids: []api.Item{{Name: "a", Block: true, Kids: []api.Item{{Name: "a"}}}}}
		},
		"many": func(l []api.Item) { l[1].Kids = slices.Repeat([]api.Item{{Name: "a"}}, 300) },
	}
	for what, spoil := range wrong {
		l := good()
		spoil(l)
		if layout.Right(l) {
			t.Fatal(what)
		}
		wantNotRight(t, l)
		// Beside other faults, too, ahead of it and behind.
		wantNotRight(t, slices.Concat(parsed(t, "no; notify { room 0; }"), l, parsed(t, "objective o {}")))
	}
	for _, l := range [][]api.Item{{{}}, {{Name: "1"}}, {{Name: "notify", Kids: []api.Item{{}}}}, {{Name: "notify", Block: true, Kids: []api.Item{{}}}}, make([]api.Item, 301), {{Name: "no", Words: make([]api.Tok, 1)}}} {
		wantNotRight(t, l)
	}
	// As deep and as many as a right tree may have.
	deep := parsed(t, "a{b{c{d;}}}"+strings.Repeat("e;", 296))
	c, faults := model(deep)
	wantTree(t, deep, c, faults)
	if len(faults) != 297 {
		t.Error(faults)
	}
	wantNotRight(t, append(deep, api.Item{Name: "e"}))
	// Deeper, and more, than can be gone through.
	twice := []api.Item{{Name: "a"}, {Name: "a"}}
	var chain []api.Item
	for range 55 {
		twice = []api.Item{{Name: "a", Block: true, Kids: twice}, {Name: "a", Block: true, Kids: twice}}
	}
	for range 60000 {
		chain = []api.Item{{Name: "notify", Block: true, Kids: chain}}
	}
	endless := []api.Item{{Name: "objective", Block: true}}
	endless[0].Kids = endless
	for _, l := range [][]api.Item{twice, chain, endless} {
		c, f := compile.Compile(l)
		if !reflect.DeepEqual(c, api.Config{}) || len(f) != 1 || f[0] != (api.Fault{Code: api.Form}) {
			t.Error(c, f)
		}
	}
}

// P16.1: of a source that can't be parsed there is its fault alone.
func TestNotParsed(t *testing.T) {
	for s, f := range map[string]api.Fault{
		"objective a {":                         {Code: api.Form, At: api.Spot{Line: 1, Col: 14}},
		"no; }":                                 {Code: api.Form, At: api.Spot{Line: 1, Col: 5}},
		"notify { room 0; } @":                  {Code: api.Word, At: api.Spot{Line: 1, Col: 20}},
		"no;\n é 1..2;":                         {Code: api.Word, At: api.Spot{Line: 2, Col: 4}},
		"objective a { target 101%; }":          {Code: api.Range, At: api.Spot{Line: 1, Col: 22}},
		"notify { room 18446744073709551616;":   {Code: api.Range, At: api.Spot{Line: 1, Col: 15}},
		"a 1 2 3 4 5 6 7;":                      {Code: api.Long, At: api.Spot{Line: 1, Col: 15}},
		"a{b{c{d{e;}}}}":                        {Code: api.Deep, At: api.Spot{Line: 1, Col: 9}},
		"a;\"" + strings.Repeat("x", 121) + `"`: {Code: api.Long, At: api.Spot{Line: 1, Col: 3}},
		strings.Repeat("a;", 301):               {Code: api.Long, At: api.Spot{Line: 1, Col: 601}},
		strings.Repeat(" ", 40001):              {Code: api.Long, At: api.Spot{Line: 1, Col: 1}},
		"\xff":                                  {Code: api.Word, At: api.Spot{Line: 1, Col: 1}},
		"\"":                                    {Code: api.Word, At: api.Spot{Line: 1, Col: 1}},
		"target 1%":                             {Code: api.Form, At: api.Spot{Line: 1, Col: 10}},
		";":                                     {Code: api.Form, At: api.Spot{Line: 1, Col: 1}},
	} {
		if _, found := tree.Parse(s); found != f {
			t.Errorf("%s: %v", shown(s), found)
		}
		c, got := compile.Read(s)
		if !reflect.DeepEqual(c, api.Config{}) || len(got) != 1 || got[0] != f {
			t.Errorf("Read(%s): %v, %v", shown(s), c, got)
		}
	}
	// As long as a source may be.
	good := with("")
	wantGood(t, good+strings.Repeat(" ", 40000-len(good)))
}
