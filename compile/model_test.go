package compile_test

import (
	"fmt"
	"math/big"
	"reflect"
	"regexp"
	"slices"
	"strconv"
	"strings"
	"testing"
	"unicode/utf8"

	"firebell/api"
	"firebell/compile"
	"firebell/layout"
	"firebell/scan"
	"firebell/tree"
)

// plain is how it is told, if nothing is said of it.
func plain() api.Notify { return api.Notify{Room: 16, First: 10, Cap: 300} }

// shown is a text in a test's words, cut off where it is very long.
func shown(s string) string {
	if len(s) > 1500 {
		return fmt.Sprintf("%s.. of %d bytes", s[:1500], len(s))
	}
	return s
}

var mark = regexp.MustCompile(`<(\d+) (Name|Form|Known|Long|Range)>`)

// marked: a source whose faults stand in it, each as <number code> ahead of its place, and these faults by their numbers.
func marked(s string) (string, []api.Fault) {
	codes := map[string]api.Code{"Name": api.Name, "Form": api.Form, "Known": api.Known, "Long": api.Long, "Range": api.Range}
	found := map[int]api.Fault{}
	for m := mark.FindStringSubmatchIndex(s); m != nil; m = mark.FindStringSubmatchIndex(s) {
		n, _ := strconv.Atoi(s[m[2]:m[3]])
		if found[n].Code != api.Fine {
			panic("twice: " + s)
		}
		line := strings.LastIndexByte(s[:m[0]], '\n') + 1
		found[n] = api.Fault{Code: codes[s[m[4]:m[5]]], At: api.Spot{Line: 1 + strings.Count(s[:line], "\n"), Col: 1 + utf8.RuneCountInString(s[line:m[0]])}}
		s = s[:m[0]] + s[m[1]:]
	}
	var faults []api.Fault
	for n := range len(found) {
		if found[n+1].Code == api.Fine {
			panic("one is missing: " + s)
		}
		faults = append(faults, found[n+1])
	}
	return s, faults
}

// sameConfig: alike, lists without items as none.
func sameConfig(a, b api.Config) bool {
	return a.Notify == b.Notify && slices.EqualFunc(a.Goals, b.Goals, func(x, y api.Goal) bool {
		labels, rules := slices.Equal(x.Labels, y.Labels), slices.Equal(x.Rules, y.Rules)
		x.Labels, x.Rules, y.Labels, y.Rules = nil, nil, nil, nil
		return labels && rules && reflect.DeepEqual(x, y)
	})
}

// nowhere: the same faults without places.
func nowhere(l []api.Fault) []api.Fault {
	l = slices.Clone(l)
	for i := range l {
		l[i].At = api.Spot{}
	}
	return l
}

// parsed: a source's items.
func parsed(t *testing.T, s string) []api.Item {
	t.Helper()
	l, f := tree.Parse(s)
	if f != (api.Fault{}) {
		t.Fatalf("%s\nisn't parsed: %v", shown(s), f)
	}
	return l
}

// wantTree: of these items there is this config, or these faults and no config; and the items stay as they are.
func wantTree(t *testing.T, l []api.Item, c api.Config, faults []api.Fault) {
	t.Helper()
	was := modelText(l)
	gotC, gotF := compile.Compile(l)
	if len(faults) > 0 && !reflect.DeepEqual(gotC, api.Config{}) {
		t.Errorf("%s\nhas faults and a config: %v", shown(was), gotC)
	}
	if !sameConfig(gotC, c) || !slices.Equal(gotF, faults) {
		t.Errorf("%s\nis compiled as %v\nwith %v,\nnot as %v\nwith %v", shown(was), gotC, gotF, c, faults)
	}
	if modelText(l) != was {
		t.Errorf("%s\nis changed", shown(was))
	}
}

// wantRead: as wantTree, of a source, and of its items with and without places; and the model tells the same.
func wantRead(t *testing.T, s string, c api.Config, faults []api.Fault) {
	t.Helper()
	gotC, gotF := compile.Read(s)
	if !sameConfig(gotC, c) || !slices.Equal(gotF, faults) {
		t.Errorf("%s\nis read as %v\nwith %v,\nnot as %v\nwith %v", shown(s), gotC, gotF, c, faults)
	}
	l := parsed(t, s)
	wantTree(t, l, c, faults)
	wantTree(t, layout.Bare(l), c, nowhere(faults))
	if modelC, modelF := model(l); !sameConfig(modelC, c) || !slices.Equal(modelF, faults) {
		t.Errorf("%s\nis %v\nwith %v to the model,\nnot %v\nwith %v", shown(s), modelC, modelF, c, faults)
	}
}

// wantConfig: there is no fault.
func wantConfig(t *testing.T, s string, c api.Config) {
	t.Helper()
	wantRead(t, s, c, nil)
}

// wantFaults: there are just those that are marked.
func wantFaults(t *testing.T, s string) {
	t.Helper()
	s, faults := marked(s)
	if len(faults) == 0 {
		t.Errorf("no fault is marked: %s", s)
	}
	wantRead(t, s, api.Config{}, faults)
}

// wantGood: there is no fault, and the config is the model's.
func wantGood(t *testing.T, s string) api.Config {
	t.Helper()
	c, _ := model(parsed(t, s))
	wantConfig(t, s, c)
	return c
}

// modelForms: how items are printed, but for their kids, at a place.
func modelForms(place string) map[string]*regexp.Regexp {
	const name, text, share, count, factor = `[^ "0-9{};][^ "{};]*`, `"(?:[^"\\]|\\.)*"`, `[0-9.]+%`, `[0-9]+`, `[0-9]+\.[0-9]+`
	const span = `(?:[0-9]+[wdhms])+`
	forms := map[string]string{}
	switch place {
	case "source":
		forms = map[string]string{"objective": name + ` {`, "notify": `{`}
	case "objective":
		forms = map[string]string{"target": share + `;`, "grain": span + `;`, "late": span + `;`, "rolling": span + `;`, "calendar": `(?:month|quarter);`, "label": name + ` ` + text + `;`, "rule": name + ` (?:page|ticket) {`}
	case "rule":
		forms = map[string]string{"long": span + `;`, "short": span + `;`, "factor": `(?:` + factor + `|` + count + `);`, "for": span + `;`, "keep": span + `;`}
	case "notify":
		forms = map[string]string{"room": count + `;`, "reserve": count + `;`, "first": span + `;`, "cap": span + `;`, "repeat": span + `;`}
	}
	made := map[string]*regexp.Regexp{}
	for s, form := range forms {
		made[s] = regexp.MustCompile(`^` + form + `$`)
	}
	return made
}

var formsOfPlaces = map[string]map[string]*regexp.Regexp{"source": modelForms("source"), "objective": modelForms("objective"), "rule": modelForms("rule"), "notify": modelForms("notify")}

// limits of an item's number, in parts, ticks, thousandths, or as it is.
var limits = map[string][2]int64{
	"target": {1, 999999}, "grain": {1, 86400}, "late": {0, 86400}, "rolling": {1, 34560000},
	"long": {1, 34560000}, "short": {1, 34560000}, "factor": {1, 1000000}, "for": {0, 604800}, "keep": {0, 604800},
	"room": {1, 64}, "reserve": {0, 64}, "first": {1, 86400}, "cap": {1, 604800}, "repeat": {0, 2592000},
}

// mostOf: how many there may be of those that may stand more than once.
var mostOf = map[string]int{"objective": 6, "label": 4, "rule": 4}

// head is what is behind an item's name, up to its brace or stop.
func head(x api.Item) string {
	var b strings.Builder
	for _, w := range x.Words {
		b.WriteString(scan.Print(w) + " ")
	}
	if x.Block {
		return b.String() + "{"
	}
	return strings.TrimSuffix(b.String(), " ") + ";"
}

func modelText(l []api.Item) string {
	var b strings.Builder
	for _, x := range l {
		fmt.Fprintf(&b, "[%q %v %v %v", x.Name, x.At, x.Words, x.Block)
		if len(x.Kids) > 0 {
			b.WriteString(" " + modelText(x.Kids))
		}
		b.WriteString("]")
	}
	return b.String()
}

// numberOf an item, in its unit.
func numberOf(x api.Item) *big.Int {
	n := new(big.Int).SetUint64(x.Words[0].N)
	if x.Name == "factor" && x.Words[0].Kind == api.TokCount {
		n.Mul(n, big.NewInt(1000))
	}
	return n
}

// modelCodes: each item's fault, or Fine of those that count.
func modelCodes(l []api.Item, place string) []api.Code {
	var codes []api.Code
	for _, x := range l {
		all, alike := 0, 0
		for i, c := range codes {
			if c == api.Fine && l[i].Name == x.Name {
				all++
				if mostOf[x.Name] == 0 || len(x.Words) > 0 && l[i].Words[0].Text == x.Words[0].Text {
					alike++
				}
			}
		}
		form, there := formsOfPlaces[place][x.Name]
		limit, counts := limits[x.Name]
		switch {
		case !there:
			codes = append(codes, api.Name)
		case !form.MatchString(head(x)):
			codes = append(codes, api.Form)
		case alike > 0:
			codes = append(codes, api.Known)
		case mostOf[x.Name] > 0 && all == mostOf[x.Name]:
			codes = append(codes, api.Long)
		case counts && (numberOf(x).Cmp(big.NewInt(limit[0])) < 0 || numberOf(x).Cmp(big.NewInt(limit[1])) > 0):
			codes = append(codes, api.Range)
		default:
			codes = append(codes, api.Fine)
		}
	}
	return codes
}

// said: the number of the item of a name that counts, or another one.
func said(l []api.Item, codes []api.Code, name string, other int64) int64 {
	for i, x := range l {
		if x.Name == name && codes[i] == api.Fine {
			return numberOf(x).Int64()
		}
	}
	return other
}

// has: does one of that name count?
func has(l []api.Item, codes []api.Code, name string) bool {
	for i, x := range l {
		if x.Name == name && codes[i] == api.Fine {
			return true
		}
	}
	return false
}

// model of Compile, of right trees.
func model(l []api.Item) (api.Config, []api.Fault) {
	c := api.Config{Notify: plain()}
	var faults []api.Fault
	for i, code := range modelCodes(l, "source") {
		x := l[i]
		switch {
		case code != api.Fine:
			faults = append(faults, api.Fault{Code: code, At: x.At})
		case x.Name == "notify":
			n, f := modelNotify(x)
			c.Notify, faults = n, append(faults, f...)
		default:
			g, f := modelGoal(x)
			c.Goals, faults = append(c.Goals, g), append(faults, f...)
		}
	}
	if len(faults) > 0 {
		return api.Config{}, faults
	}
	return c, nil
}

func faultsOf(l []api.Item, codes []api.Code) []api.Fault {
	var faults []api.Fault
	for i, c := range codes {
		if c != api.Fine {
			faults = append(faults, api.Fault{Code: c, At: l[i].At})
		}
	}
	return faults
}

func modelNotify(x api.Item) (api.Notify, []api.Fault) {
	l, codes := x.Kids, modelCodes(x.Kids, "notify")
	n := api.Notify{Room: int(said(l, codes, "room", 16)), Reserve: int(said(l, codes, "reserve", 0)), First: said(l, codes, "first", 10), Cap: said(l, codes, "cap", 300), Repeat: said(l, codes, "repeat", 0)}
	faults := faultsOf(l, codes)
	if n.Room < n.Reserve || n.First > n.Cap {
		faults = append(faults, api.Fault{Code: api.Range, At: x.At})
	}
	return n, faults
}

func modelGoal(x api.Item) (api.Goal, []api.Fault) {
	l, codes := x.Kids, modelCodes(x.Kids, "objective")
	g := api.Goal{Name: x.Words[0].Text, Target: uint32(said(l, codes, "target", 0)), Grain: said(l, codes, "grain", 60), Late: said(l, codes, "late", 0), Rolling: said(l, codes, "rolling", 0)}
	var faults, behind []api.Fault
	for i, y := range l {
		switch {
		case codes[i] != api.Fine:
			faults = append(faults, api.Fault{Code: codes[i], At: y.At})
		case y.Name == "calendar":
			g.Calendar = map[string]int{"month": 1, "quarter": 2}[y.Words[0].Text]
		case y.Name == "label":
			g.Labels = append(g.Labels, api.Label{Name: y.Words[0].Text, Text: y.Words[1].Text})
		case y.Name == "rule":
			r, f := modelRule(y)
			g.Rules, faults = append(g.Rules, r), append(faults, f...)
			if r.Long/g.Grain*g.Grain != r.Long || r.Short/g.Grain*g.Grain != r.Short {
				behind = append(behind, api.Fault{Code: api.Range, At: y.At})
			}
		}
	}
	if !has(l, codes, "target") || !has(l, codes, "rule") {
		faults = append(faults, api.Fault{Code: api.Form, At: x.At})
	}
	faults = append(faults, behind...)
	if has(l, codes, "rolling") && g.Rolling/g.Grain*g.Grain != g.Rolling {
		faults = append(faults, api.Fault{Code: api.Range, At: x.At})
	}
	return g, faults
}

func modelRule(x api.Item) (api.Rule, []api.Fault) {
	l, codes := x.Kids, modelCodes(x.Kids, "rule")
	r := api.Rule{Name: x.Words[0].Text, Page: x.Words[1].Text == "page", Long: said(l, codes, "long", 0), Short: said(l, codes, "short", 0), Factor: uint64(said(l, codes, "factor", 0)), For: said(l, codes, "for", 0), Keep: said(l, codes, "keep", 0)}
	faults := faultsOf(l, codes)
	if !has(l, codes, "long") || !has(l, codes, "short") || !has(l, codes, "factor") {
		faults = append(faults, api.Fault{Code: api.Form, At: x.At})
	} else if r.Short > r.Long {
		faults = append(faults, api.Fault{Code: api.Range, At: x.At})
	}
	return r, faults
}
