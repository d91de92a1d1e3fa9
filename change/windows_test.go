package change_test

import (
	"math"
	"reflect"
	"slices"
	"testing"

	"firebell/api"
	"firebell/change"
)

// wantWindows of a goal, which stays as it is, in memory of their own.
func wantWindows(t *testing.T, g api.Goal, want ...int64) {
	t.Helper()
	rules := slices.Clone(g.Rules)
	l := change.Windows(g)
	if !slices.Equal(l, want) {
		t.Fatalf("%+v\nhas the windows %v, not %v", g, l, want)
	}
	if !slices.Equal(modelWindows(g), want) {
		t.Fatalf("%+v\nhas to the model %v", g, modelWindows(g))
	}
	for i := range l {
		l[i] = 7
	}
	if !slices.Equal(change.Windows(g), want) || !reflect.DeepEqual(rules, slices.Clone(g.Rules)) {
		t.Fatalf("%+v\nhas changed", g)
	}
}

// rolling: a goal with a rolling budget and these rules.
func rolling(n int64, rules ...api.Rule) api.Goal {
	g := aGoal("g", rules...)
	g.Rolling = n
	return g
}

// P18.1: each once, rising.
func TestWindows(t *testing.T) {
	wantWindows(t, aGoal("g", aRule("r", 3600, 300)), 300, 3600)
	wantWindows(t, aGoal("g", aRule("r", 300, 300)), 300)
	wantWindows(t, aGoal("g", aRule("r", 300, 60), aRule("s", 300, 60)), 60, 300)
	wantWindows(t, aGoal("g", aRule("r", 300, 60), aRule("s", 600, 300), aRule("t", 60, 60)), 60, 300, 600)
	wantWindows(t, aGoal("g", aRule("r", 800, 700), aRule("s", 600, 500), aRule("t", 400, 300), aRule("u", 200, 100)), 100, 200, 300, 400, 500, 600, 700, 800)
	wantWindows(t, aGoal("g", aRule("r", 200, 100), aRule("s", 600, 100), aRule("t", 600, 300)), 100, 200, 300, 600)
	wantWindows(t, aGoal("g", aRule("r", 9, 8), aRule("s", 10, 1)), 1, 8, 9, 10)
}

// P18.1: Rolling is told, if it isn't 0, and once.
func TestRolling(t *testing.T) {
	wantWindows(t, rolling(0, aRule("r", 3600, 300)), 300, 3600)
	wantWindows(t, rolling(60, aRule("r", 3600, 300)), 60, 300, 3600)
	wantWindows(t, rolling(600, aRule("r", 3600, 300)), 300, 600, 3600)
	wantWindows(t, rolling(7200, aRule("r", 3600, 300)), 300, 3600, 7200)
	wantWindows(t, rolling(3600, aRule("r", 3600, 300)), 300, 3600)
	wantWindows(t, rolling(300, aRule("r", 3600, 300), aRule("s", 600, 300)), 300, 600, 3600)
	wantWindows(t, rolling(300, aRule("r", 300, 300)), 300)
	wantWindows(t, rolling(34560000, aRule("r", 34560000, 34560000), aRule("s", 34560000, 60)), 60, 34560000)
}

// P18.1: of a goal that isn't right, too.
func TestWindowsOfAny(t *testing.T) {
	wantWindows(t, api.Goal{})
	wantWindows(t, aGoal("g"))
	wantWindows(t, aGoal("g", []api.Rule{}...))
	wantWindows(t, rolling(5), 5)
	wantWindows(t, rolling(-5), -5)
	wantWindows(t, rolling(math.MinInt64), math.MinInt64)
	wantWindows(t, rolling(math.MaxInt64), math.MaxInt64)
	wantWindows(t, aGoal("g", api.Rule{}), 0)
	wantWindows(t, rolling(0, api.Rule{}, aRule("r", 0, 0)), 0)
	wantWindows(t, rolling(0, aRule("r", 5, 0)), 0, 5)
	wantWindows(t, rolling(-1, aRule("r", 0, 5)), -1, 0, 5)
	wantWindows(t, aGoal("", aRule("", -3, -2), aRule("", 0, 7), aRule("", -2, 1)), -3, -2, 0, 1, 7)
	wantWindows(t, rolling(-9, aRule("r", math.MaxInt64, math.MinInt64), aRule("r", math.MinInt64+1, math.MaxInt64-1)), math.MinInt64, math.MinInt64+1, -9, math.MaxInt64-1, math.MaxInt64)
	wantWindows(t, aGoal("1", aRule("1", 1, 2), aRule("1", 2, 3)), 1, 2, 3)
	wantWindows(t, api.Goal{Grain: -7, Rules: []api.Rule{{Long: 3, Short: 4}}}, 3, 4)
}

// P18.1: however many rules there are, and in whatever order.
func TestManyWindows(t *testing.T) {
	var g api.Goal
	var want []int64
	for i := range int64(500) {
		g.Rules = append(g.Rules, aRule("r", 1000-i, i%7-3))
		want = append(want, 501+i)
	}
	wantWindows(t, g, append([]int64{-3, -2, -1, 0, 1, 2, 3}, want...)...)
	slices.Reverse(g.Rules)
	wantWindows(t, g, append([]int64{-3, -2, -1, 0, 1, 2, 3}, want...)...)
}
