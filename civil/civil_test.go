package civil_test

import (
	"fmt"
	"math"
	"math/big"
	"math/rand"
	"regexp"
	"strconv"
	"strings"
	"testing"
	"time"

	"firebell/api"
	"firebell/civil"
)

const (
	most = api.MaxTick
	day  = 86400
	days = (most + 1) / day
	top  = math.MaxInt64
	deep = math.MinInt64
)

// nones are no ticks: just outside of them, at ends, and what has low bits that would be a tick.
var nones = []int64{
	-1, -2, -day, -day - 1, -most, -most - 1, math.MinInt32, deep, deep + 1, deep + day, -1 << 40,
	most + 1, most + 2, most + day, most + day + 1, 2 * most, 1 << 38, 1 << 40, 1<<62 + 5, top - day, top - 1, top,
}

// years of the rule: beside those that 4, 100 and 400 divide, on both sides of 0, and at the ends of what an int holds.
func years() []int {
	var l []int
	for y := -2100; y <= 10500; y++ {
		l = append(l, y)
	}
	for i := range 1000 {
		l = append(l, math.MaxInt-i, math.MinInt+i)
	}
	r := rand.New(rand.NewSource(51))
	for range 20000 {
		y := int(r.Uint64()) >> r.Intn(63)
		l = append(l, y, y/100*100, y/400*400)
	}
	return l
}

// leap is the rule by big numbers.
func leap(year int) bool {
	divides := func(n int64) bool {
		return new(big.Int).Mod(big.NewInt(int64(year)), big.NewInt(n)).Sign() == 0
	}
	return divides(400) || divides(4) && !divides(100)
}

// length of a month, by hand.
func length(year, month int) int {
	n := map[int]int{1: 31, 2: 28, 3: 31, 4: 30, 5: 31, 6: 30, 7: 31, 8: 31, 9: 30, 10: 31, 11: 30, 12: 31}[month]
	if month == 2 && leap(year) {
		n++
	}
	return n
}

// right is what is a date, by package time: one that it doesn't put right.
func right(d api.Date) bool {
	if d.Year < 1970 || d.Year > 9999 || d.Month < 1 || d.Month > 12 || d.Day < 1 || d.Day > 31 {
		return false
	}
	return date(time.Date(d.Year, time.Month(d.Month), d.Day, 0, 0, 0, 0, time.UTC)) == d
}

func date(x time.Time) api.Date {
	return api.Date{Year: x.Year(), Month: int(x.Month()), Day: x.Day()}
}

// wrongs are dates that aren't right.
func wrongs() []api.Date {
	l := []api.Date{
		{}, {Year: 2000}, {Month: 1}, {Day: 1}, {Year: 2000, Month: 1}, {Year: 2000, Day: 1}, {Month: 1, Day: 1},
		// years
		{Year: 1969, Month: 12, Day: 31}, {Year: 1969, Month: 1, Day: 1}, {Year: 1968, Month: 2, Day: 29}, {Year: 10000, Month: 1, Day: 1}, {Year: 10000, Month: 12, Day: 31}, {Year: 10001, Month: 1, Day: 1},
		{Year: 1, Month: 1, Day: 1}, {Year: -1, Month: 1, Day: 1}, {Year: -1970, Month: 1, Day: 1}, {Year: -2000, Month: 6, Day: 15}, {Year: 1600, Month: 2, Day: 29}, {Year: 20000, Month: 6, Day: 15},
		{Year: 1<<32 + 2000, Month: 1, Day: 1}, {Year: 1<<16 + 2000, Month: 1, Day: 1}, {Year: math.MaxInt, Month: 1, Day: 1}, {Year: math.MinInt, Month: 1, Day: 1}, {Year: math.MinInt + 2000, Month: 1, Day: 1},
		// months
		{Year: 2000, Month: 0, Day: 1}, {Year: 2000, Month: 13, Day: 1}, {Year: 2000, Month: 14, Day: 1}, {Year: 2000, Month: 24, Day: 1}, {Year: 2000, Month: -1, Day: 1}, {Year: 2000, Month: -12, Day: 1}, {Year: 2000, Month: 0, Day: 0},
		{Year: 1970, Month: 0, Day: 1}, {Year: 9999, Month: 13, Day: 1}, {Year: 2000, Month: 1<<32 + 1, Day: 1}, {Year: 2000, Month: 257, Day: 1}, {Year: 2000, Month: math.MaxInt, Day: 1}, {Year: 2000, Month: math.MinInt, Day: 1}, {Year: 2000, Month: math.MinInt + 1, Day: 1},
		// February's days
		{Year: 2001, Month: 2, Day: 29}, {Year: 2100, Month: 2, Day: 29}, {Year: 2000, Month: 2, Day: 30}, {Year: 2004, Month: 2, Day: 30}, {Year: 9900, Month: 2, Day: 29}, {Year: 1970, Month: 2, Day: 29}, {Year: 9999, Month: 2, Day: 29},
		// all ends together
		{Year: math.MaxInt, Month: math.MaxInt, Day: math.MaxInt}, {Year: math.MinInt, Month: math.MinInt, Day: math.MinInt}, {Year: -1, Month: -1, Day: -1},
	}
	for _, y := range []int{1970, 1972, 2000, 2001, 2100, 9996, 9999} {
		for m := 1; m <= 12; m++ {
			for _, n := range []int{0, -1, -28, length(y, m) + 1, 32, 33, 60, 257, 1<<32 + 1, math.MaxInt, math.MinInt, math.MinInt + 1} {
				l = append(l, api.Date{Year: y, Month: m, Day: n})
			}
		}
	}
	return l
}

// ticks at which something turns: a few beside both ends of days, months and years; then any.
func ticks() []int64 {
	var l []int64
	for _, y := range []int{1970, 1971, 1972, 1973, 1999, 2000, 2001, 2004, 2038, 2099, 2100, 2101, 2399, 2400, 2401, 9600, 9996, 9999, 10000} {
		for m := 1; m <= 12; m++ {
			for d := range 32 {
				n := time.Date(y, time.Month(m), d, 0, 0, 0, 0, time.UTC).Unix()
				for beside := int64(-2); beside <= 2; beside++ {
					if n+beside >= 0 && n+beside <= most {
						l = append(l, n+beside)
					}
				}
			}
		}
	}
	r := rand.New(rand.NewSource(52))
	for range 20000 {
		l = append(l, r.Int63n(most+1), r.Int63n(most+1)>>r.Intn(38))
	}
	return append(l, 0, 1, day-1, day, day+1, most-day, most-1, most)
}

func wantAt(t *testing.T, tick int64, d api.Date, c api.Code) {
	t.Helper()
	if e, b := civil.At(tick); e != d || b != c {
		t.Errorf("At(%d): %v, %d, not %v, %d", tick, e, b, d, c)
	}
}

func wantTick(t *testing.T, d api.Date, tick int64, c api.Code) {
	t.Helper()
	if n, b := civil.Tick(d); n != tick || b != c {
		t.Errorf("Tick(%v): %d, %d, not %d, %d", d, n, b, tick, c)
	}
}

func wantMonth(t *testing.T, tick, from, to int64, c api.Code) {
	t.Helper()
	if a, b, e := civil.Month(tick); a != from || b != to || e != c {
		t.Errorf("Month(%d): %d, %d, %d, not %d, %d, %d", tick, a, b, e, from, to, c)
	}
}

func wantQuarter(t *testing.T, tick, from, to int64, c api.Code) {
	t.Helper()
	if a, b, e := civil.Quarter(tick); a != from || b != to || e != c {
		t.Errorf("Quarter(%d): %d, %d, %d, not %d, %d, %d", tick, a, b, e, from, to, c)
	}
}

func wantRead(t *testing.T, s string, d api.Date, c api.Code) {
	t.Helper()
	if e, b := civil.Read(s); e != d || b != c {
		t.Errorf("Read(%q): %v, %d, not %v, %d", s, e, b, d, c)
	}
}

// P5.1: Leap and Days, of any year by the rule.

func TestLeapByHand(t *testing.T) {
	for year, want := range map[int]bool{
		1970: false, 1971: false, 1972: true, 1973: false, 1974: false, 1975: false, 1976: true, 1996: true, 1999: false, 2000: true, 2001: false, 2004: true, 2096: true, 2100: false, 2104: true, 2200: false, 2300: false, 2400: true, 9600: true, 9900: false, 9996: true, 9999: false,
		1969: false, 1968: true, 1900: false, 1800: false, 1700: false, 1600: true, 1000: false, 800: true, 400: true, 300: false, 200: false, 100: false, 96: true, 8: true, 5: false, 4: true, 3: false, 2: false, 1: false,
		0: true, -1: false, -2: false, -3: false, -4: true, -5: false, -8: true, -96: true, -100: false, -104: true, -200: false, -300: false, -400: true, -401: false, -800: true, -1600: true, -1900: false, -2000: true,
		10000: true, 10004: true, 10100: false, 10400: true,
		math.MaxInt: false, math.MaxInt - 3: true, math.MinInt: true, math.MinInt + 1: false, math.MinInt + 4: true,
	} {
		if b := civil.Leap(year); b != want {
			t.Errorf("Leap(%d): %t", year, b)
		}
	}
}

func TestDaysByHand(t *testing.T) {
	for _, year := range []int{1970, 1900, 2001, 2100, 9999, 1969, 1, -1, -100, 10001, math.MaxInt, math.MinInt + 1} {
		for m, want := range [...]int{0, 31, 28, 31, 30, 31, 30, 31, 31, 30, 31, 30, 31, 0, 0} {
			if n := civil.Days(year, m); n != want {
				t.Errorf("Days(%d, %d): %d, not %d", year, m, n, want)
			}
		}
	}
	for _, year := range []int{1972, 2000, 2004, 2400, 9996, 1968, 1600, 4, 0, -4, -400, 10000, math.MaxInt - 3, math.MinInt} {
		for m, want := range [...]int{0, 31, 29, 31, 30, 31, 30, 31, 31, 30, 31, 30, 31, 0, 0} {
			if n := civil.Days(year, m); n != want {
				t.Errorf("Days(%d, %d): %d, not %d", year, m, n, want)
			}
		}
	}
}

func TestLeapAndDaysOfAnyYear(t *testing.T) {
	for _, year := range years() {
		if b := civil.Leap(year); b != leap(year) {
			t.Fatalf("Leap(%d): %t", year, b)
		}
		sum := 0
		for m := -2; m <= 15; m++ {
			n := civil.Days(year, m)
			if n != length(year, m) {
				t.Fatalf("Days(%d, %d): %d", year, m, n)
			}
			sum += n
		}
		if sum != 365 && !leap(year) || sum != 366 && leap(year) {
			t.Fatalf("days of %d: %d", year, sum)
		}
	}
}

func TestDaysOfNoMonth(t *testing.T) {
	for _, year := range []int{2000, 2001, 0, -1, 1969, 10000, math.MaxInt, math.MinInt} {
		for _, m := range []int{0, 13, 14, 24, 26, -1, -2, -11, -12, -13, 100, 255, 256, 258, 1<<32 + 1, 1<<32 + 2, math.MaxInt, math.MaxInt - 1, math.MinInt, math.MinInt + 1, math.MinInt + 2} {
			if n := civil.Days(year, m); n != 0 {
				t.Errorf("Days(%d, %d): %d", year, m, n)
			}
		}
	}
}

// P5.1: Right, and Tick's Range; P5.3: Print of one that isn't right.

func TestRightByHand(t *testing.T) {
	for _, d := range []api.Date{
		{Year: 1970, Month: 1, Day: 1}, {Year: 9999, Month: 12, Day: 31}, {Year: 2000, Month: 2, Day: 29}, {Year: 1972, Month: 2, Day: 29}, {Year: 9996, Month: 2, Day: 29}, {Year: 2001, Month: 2, Day: 28}, {Year: 2100, Month: 2, Day: 28}, {Year: 2024, Month: 4, Day: 30}, {Year: 2024, Month: 1, Day: 31},
	} {
		if !civil.Right(d) {
			t.Errorf("Right(%v)", d)
		}
	}
}

func TestWrongDates(t *testing.T) {
	for _, d := range wrongs() {
		if civil.Right(d) {
			t.Errorf("Right(%v)", d)
		}
		wantTick(t, d, 0, api.Range)
		if s := civil.Print(d); s != "?" {
			t.Errorf("Print(%v): %q", d, s)
		}
	}
}

func TestRightOfAllAroundDates(t *testing.T) {
	for _, y := range []int{1968, 1969, 1970, 1971, 1972, 1999, 2000, 2001, 2004, 2100, 2400, 9996, 9998, 9999, 10000, 10001, 0, -2000} {
		for m := -3; m <= 16; m++ {
			for n := -3; n <= 35; n++ {
				d := api.Date{Year: y, Month: m, Day: n}
				if b := civil.Right(d); b != right(d) {
					t.Errorf("Right(%v): %t", d, b)
				}
				if tick, c := civil.Tick(d); (c == api.Fine) != right(d) || c != api.Fine && (c != api.Range || tick != 0) {
					t.Errorf("Tick(%v): %d, %d", d, tick, c)
				}
				if s := civil.Print(d); (s != "?") != right(d) {
					t.Errorf("Print(%v): %q", d, s)
				}
			}
		}
	}
}

// P5.1: At and Tick; P5.3: what is printed is read.

func TestTicksByHand(t *testing.T) {
	for first, d := range map[int64]api.Date{
		0: {Year: 1970, Month: 1, Day: 1}, 86400: {Year: 1970, Month: 1, Day: 2}, 2592000: {Year: 1970, Month: 1, Day: 31}, 2678400: {Year: 1970, Month: 2, Day: 1}, 5011200: {Year: 1970, Month: 2, Day: 28}, 5097600: {Year: 1970, Month: 3, Day: 1}, 31449600: {Year: 1970, Month: 12, Day: 31}, 31536000: {Year: 1971, Month: 1, Day: 1},
		// years that 4 divides, those that 100 divides, too, and those that 400 does
		68083200: {Year: 1972, Month: 2, Day: 28}, 68169600: {Year: 1972, Month: 2, Day: 29}, 68256000: {Year: 1972, Month: 3, Day: 1}, 94608000: {Year: 1972, Month: 12, Day: 31}, 94694400: {Year: 1973, Month: 1, Day: 1},
		946684800: {Year: 2000, Month: 1, Day: 1}, 951696000: {Year: 2000, Month: 2, Day: 28}, 951782400: {Year: 2000, Month: 2, Day: 29}, 951868800: {Year: 2000, Month: 3, Day: 1}, 978220800: {Year: 2000, Month: 12, Day: 31}, 978307200: {Year: 2001, Month: 1, Day: 1},
		4107456000: {Year: 2100, Month: 2, Day: 28}, 4107542400: {Year: 2100, Month: 3, Day: 1}, 13574476800: {Year: 2400, Month: 2, Day: 28}, 13574563200: {Year: 2400, Month: 2, Day: 29}, 13574649600: {Year: 2400, Month: 3, Day: 1},
		1000000000 - 6400: {Year: 2001, Month: 9, Day: 9}, 1<<31 - 11648: {Year: 2038, Month: 1, Day: 19}, 1<<32 - 23296: {Year: 2106, Month: 2, Day: 7},
		253370764800: {Year: 9999, Month: 1, Day: 1}, 253402128000: {Year: 9999, Month: 12, Day: 30}, 253402214400: {Year: 9999, Month: 12, Day: 31},
	} {
		wantTick(t, d, first, api.Fine)
		for _, more := range []int64{0, 1, 43199, 43200, day - 2, day - 1} {
			wantAt(t, first+more, d, api.Fine)
		}
		if first > 0 {
			if e, c := civil.At(first - 1); e == d || c != api.Fine {
				t.Errorf("At(%d): %v, %d", first-1, e, c)
			}
		}
	}
	wantAt(t, 86399, api.Date{Year: 1970, Month: 1, Day: 1}, api.Fine)
	wantAt(t, most, api.Date{Year: 9999, Month: 12, Day: 31}, api.Fine)
}

func TestNoTicks(t *testing.T) {
	for _, n := range nones {
		wantAt(t, n, api.Date{}, api.Range)
		wantMonth(t, n, 0, 0, api.Range)
		wantQuarter(t, n, 0, 0, api.Range)
	}
}

func TestAllDays(t *testing.T) {
	want := api.Date{Year: 1970, Month: 1, Day: 1}
	for n := range int64(days) {
		if d, c := civil.At(n * day); d != want || c != api.Fine {
			t.Fatalf("At(%d): %v, %d, not %v", n*day, d, c, want)
		}
		if d, c := civil.At(n*day + day - 1); d != want || c != api.Fine {
			t.Fatalf("At(%d): %v, %d, not %v", n*day+day-1, d, c, want)
		}
		if tick, c := civil.Tick(want); tick != n*day || c != api.Fine || !civil.Right(want) {
			t.Fatalf("Tick(%v): %d, %d", want, tick, c)
		}
		s := fmt.Sprintf("%04d-%02d-%02d", want.Year, want.Month, want.Day)
		if civil.Print(want) != s {
			t.Fatalf("Print(%v): %q", want, civil.Print(want))
		}
		if d, c := civil.Read(s); d != want || c != api.Fine {
			t.Fatalf("Read(%q): %v, %d", s, d, c)
		}
		want.Day++
		if want.Day > length(want.Year, want.Month) {
			want.Month, want.Day = want.Month+1, 1
		}
		if want.Month > 12 {
			want.Year, want.Month = want.Year+1, 1
		}
	}
	if want != (api.Date{Year: 10000, Month: 1, Day: 1}) {
		t.Errorf("behind all days: %v", want)
	}
}

func TestAnyTicks(t *testing.T) {
	for _, n := range ticks() {
		x := time.Unix(n, 0).UTC()
		wantAt(t, n, date(x), api.Fine)
		wantTick(t, date(x), n-n%day, api.Fine)
		wantMonth(t, n, time.Date(x.Year(), x.Month(), 1, 0, 0, 0, 0, time.UTC).Unix(), time.Date(x.Year(), x.Month()+1, 1, 0, 0, 0, 0, time.UTC).Unix(), api.Fine)
		month := (x.Month()-1)/3*3 + 1
		wantQuarter(t, n, time.Date(x.Year(), month, 1, 0, 0, 0, 0, time.UTC).Unix(), time.Date(x.Year(), month+3, 1, 0, 0, 0, 0, time.UTC).Unix(), api.Fine)
	}
}

// P5.2: Month and Quarter.

func TestPeriodsByHand(t *testing.T) {
	check := func(want func(*testing.T, int64, int64, int64, api.Code), from, to int64) {
		t.Helper()
		for _, n := range []int64{from, from + 1, from + day, from + (to-from)/2, to - day, to - 1} {
			want(t, n, from, to, api.Fine)
		}
	}
	for _, p := range [][2]int64{
		{0, 2678400}, {2678400, 5097600}, {5097600, 7776000}, {28857600, 31536000}, {31536000, 34214400}, // 1970's first three and last, and the one behind it
		{65750400, 68256000}, {946684800, 949363200}, {949363200, 951868800}, {4105123200, 4107542400}, // Februaries of 1972, 2000 and 2100, and a January
		{253370764800, 253373443200}, {253399622400, 253402300800}, // 9999's first and last
	} {
		check(wantMonth, p[0], p[1])
	}
	for _, p := range [][2]int64{
		{0, 7776000}, {7776000, 15638400}, {15638400, 23587200}, {23587200, 31536000}, {31536000, 39312000}, // 1970's, and the one behind them
		{63072000, 70934400}, {946684800, 954547200}, {4102444800, 4110220800}, // the first ones of 1972, 2000 and 2100
		{253370764800, 253378540800}, {253394352000, 253402300800}, // 9999's first and last
	} {
		check(wantQuarter, p[0], p[1])
	}
}

// P5.4: each tick lies in its day, its day in its month, its month in its quarter.

func TestWhatLiesInWhat(t *testing.T) {
	for _, n := range ticks() {
		d, _ := civil.At(n)
		first, c := civil.Tick(d)
		if c != api.Fine || n < first || n >= first+day {
			t.Fatalf("%d isn't in its day: %v from %d, %d", n, d, first, c)
		}
		from, to, c := civil.Month(n)
		if c != api.Fine || first < from || first+day > to || to-from != int64(civil.Days(d.Year, d.Month))*day {
			t.Fatalf("%v isn't in its month: %d to %d, %d", d, from, to, c)
		}
		begin, end, c := civil.Quarter(n)
		if c != api.Fine || from < begin || to > end {
			t.Fatalf("%d to %d isn't in its quarter: %d to %d, %d", from, to, begin, end, c)
		}
	}
}

// P5.4: periods lie one behind the other, from 0 on to just behind the last tick.

func TestPeriodsOneBehindTheOther(t *testing.T) {
	walk := func(period func(int64) (int64, int64, api.Code), months int) {
		at, many := int64(0), 0
		for at <= most {
			from, to, c := period(at)
			if c != api.Fine || from != at || to <= from || to > most+1 {
				t.Fatalf("the period of %d: %d to %d, %d", at, from, to, c)
			}
			if a, b, c := period(to - 1); a != from || b != to || c != api.Fine {
				t.Fatalf("the period of %d: %d to %d, %d", to-1, a, b, c)
			}
			first := date(time.Unix(from, 0).UTC())
			if first.Day != 1 || first.Month != many*months%12+1 || first.Year != 1970+many*months/12 {
				t.Fatalf("a period begins at %v", first)
			}
			at, many = to, many+1
		}
		if at != most+1 || many != 8030*12/months {
			t.Errorf("%d periods, up to %d", many, at)
		}
	}
	walk(civil.Month, 1)
	walk(civil.Quarter, 3)
}

// P5.3: Print.

func TestPrintByHand(t *testing.T) {
	for s, d := range map[string]api.Date{
		"1970-01-01": {Year: 1970, Month: 1, Day: 1}, "1970-01-02": {Year: 1970, Month: 1, Day: 2}, "1970-12-31": {Year: 1970, Month: 12, Day: 31}, "2000-02-29": {Year: 2000, Month: 2, Day: 29}, "2001-09-09": {Year: 2001, Month: 9, Day: 9}, "2010-10-10": {Year: 2010, Month: 10, Day: 10}, "2026-11-08": {Year: 2026, Month: 11, Day: 8}, "9999-01-01": {Year: 9999, Month: 1, Day: 1}, "9999-12-31": {Year: 9999, Month: 12, Day: 31},
	} {
		if p := civil.Print(d); p != s {
			t.Errorf("Print(%v): %q, not %q", d, p, s)
		}
		wantRead(t, s, d, api.Fine)
	}
	wantRead(t, "?", api.Date{}, api.Word)
}

// P5.3: Read of texts that aren't so written.

var written = regexp.MustCompile(`^([0-9]{4})-([0-9]{2})-([0-9]{2})$`)

// told is what the chapter says of Read, by a pattern and package time.
func told(s string) (api.Date, api.Code) {
	parts := written.FindStringSubmatch(s)
	if parts == nil {
		return api.Date{}, api.Word
	}
	var n [3]int
	for i := range n {
		n[i], _ = strconv.Atoi(parts[i+1])
	}
	d := api.Date{Year: n[0], Month: n[1], Day: n[2]}
	if !right(d) {
		return api.Date{}, api.Range
	}
	return d, api.Fine
}

func TestReadWord(t *testing.T) {
	for _, s := range []string{
		// nothing, and too little of it
		"", "-", "--", "---", "0", "2000", "2000-", "2000-01", "2000-01-", "2000-01-0", "-01-01", "2000--01", "20000101", "2000-0101", "200001-01", "01-01", "2000-01--", "2000--", "-01-", "--01",
		// too few and too many digits
		"2000-1-01", "2000-01-1", "2000-1-1", "200-01-01", "20-01-01", "0-01-01", "70-01-01", "2000-001-01", "2000-01-001", "02000-01-01", "20000-01-01", "10000-01-01", "002000-01-01", "2000-010-1", "200-001-01", "20000-1-01", "2000-0-001", "2000-011-1", "00002000-01-01", "2000-00001-01", "0000000000", "1234567890", "18446744073709551616-01-01", "2000-18446744073709551617-01",
		// more behind it, and ahead
		"2000-01-01-", "2000-01-01-01", "2000-01-01x", "2000-01-010", "2000-01-01 ", "2000-01-01\n", "2000-01-01\x00", "2000-01-01T00:00:00Z", "2000-01-012000-01-01", "-2000-01-01", "x2000-01-01", " 2000-01-01", "\n2000-01-01", "\t2000-01-01", "2000-01-01?", "?",
		// signs and spaces, in place of digits, and beside them
		"+2000-01-01", "+200-01-01", "-200-01-01", "2000-+1-01", "2000--1-01", "2000-01-+1", "2000-01--1", "2000- 1-01", "2000-01- 1", "2000-1 -01", " 200-01-01", "200 -01-01", "2000 01 01", "2000 -01-01", "2000- 01-01", "2000-01 -01", "2000-01- 01", "2000-01-1 ", "2 00-01-01", "2000-01-0\t",
		// other letters
		"abcd-ef-gh", "2000-Jan-01", "200x-01-01", "2000-0x-01", "2000-01-0x", "x000-01-01", "2000-x1-01", "2000-01-x1", "2O00-01-01", "2000-l1-01", "0x00-01-01", "2e03-01-01", "2_00-01-01", "200.-01-01", "2000-1.-01", "/000-01-01", ":000-01-01", "2000-/1-01", "2000-:1-01", "2000-01-/1", "2000-01-1:",
		"2000/01/01", "2000.01.01", "2000_01_01", "2000:01:01", "2000,01,01", "2000-01/01", "2000/01-01", "2000x01-01", "2000-01x01", "2000001-01", "2000-01001", "2000-01.01", "2000-01,01", "2000.01-01",
		// digits and - of other writings: as many runes, or as many bytes
		"２000-01-01", "2000-0１-01", "2000-01-0１", "２０００-０１-０１", "٢٠٠٠-٠١-٠١", "٢000-01-01", "٢00-01-01", "२000-01-01", "2000-01-٠", "2000-٠-01", "٢٠-01-01", "２0-01-01", "𝟐000-01-01", "𝟐-01-01", "²000-01-01", "2000-01-0¹", "½00-01-01",
		"2000−01−01", "2000–01–01", "2000—01—01", "2000‐01‐01", "2000‑01‑01", "2000-01‐01", "2000－01－01", "2000\u00ad01\u00ad01", "2000-01\u00ad1", "2000\u00ad1-01", "2000\u00ad01-1", "2000‐1-01", "2000\u201001",
		// runes that add to others
		"2000-01-01\u0301", "2000-01-0\u0301", "2000\u0301-01-01", "\ufeff2000-01-01", "\u200e2000-01-01",
		// bytes that are no rune's, and what stands for them
		"\xff", "\xff000-01-01", "200\xff-01-01", "2000\xff01-01", "2000-\xff1-01", "2000-01\xff01", "2000-01-\xff1", "2000-01-0\xff", "2000-01-01\xff", "\xff2000-01-01", "2000-01-0\x80", "2000-01-0\xc0", "2000-01-0\xe2", "2000-01-0\xf0", "\xb2000-01-01", "2000\xad01-01", "2000-01-\ufffd", "\ufffd0-01-01", "200\ufffd-01-01", "2000-01-01\ufffd", "\x00000-01-01", "2000\x0001\x0001",
		// what isn't so written isn't Range, whatever is wrong with it otherwise
		"0000-00-0", "0000-00-000", "1969-13-3x", "10000-13-32", "1969/12/31", "0000-00-00 ", "-0000-00-00", "1969-12-31\xff", "0000-00-0\xff",
	} {
		wantRead(t, s, api.Date{}, api.Word)
	}
}

func TestReadRange(t *testing.T) {
	for y := range 1970 {
		wantRead(t, fmt.Sprintf("%04d-01-01", y), api.Date{}, api.Range)
		wantRead(t, fmt.Sprintf("%04d-12-31", y), api.Date{}, api.Range)
		wantRead(t, fmt.Sprintf("%04d-02-29", y), api.Date{}, api.Range)
	}
	for _, s := range []string{
		"0000-00-00", "0000-00-01", "0000-01-00", "0000-02-29", "0001-01-01", "1969-12-31", "1968-02-29", "1969-13-32",
		"1970-00-01", "1970-01-00", "1970-00-00", "1970-01-32", "1970-02-29", "1970-13-01", "1970-99-99",
		"2000-00-10", "2000-13-10", "2000-14-01", "2000-20-01", "2000-99-01", "2000-01-32", "2000-02-30", "2000-02-31", "2001-02-29", "2100-02-29", "2000-04-31", "2000-06-31", "2000-09-31", "2000-11-31", "2000-12-32", "2000-01-00", "2000-01-99",
		"9999-02-29", "9999-00-31", "9999-13-01", "9999-12-00", "9999-12-32", "9999-99-99", "9900-02-29",
	} {
		wantRead(t, s, api.Date{}, api.Range)
	}
}

// P5.3: a print cut short at each place, one that goes on, and one that goes round.

func TestReadOfPieces(t *testing.T) {
	for _, s := range []string{"1970-01-01", "2000-02-29", "9999-12-31", "2011-11-11"} {
		for i := range len(s) {
			wantRead(t, s[:i], api.Date{}, api.Word)
			if i > 0 {
				wantRead(t, s[i:], api.Date{}, api.Word)
				wantRead(t, s[i:]+s[:i], api.Date{}, api.Word)
			}
			wantRead(t, s[:i]+s[i+1:], api.Date{}, api.Word)
			wantRead(t, s[:i]+s[i:i+1]+s[i:], api.Date{}, api.Word)
			wantRead(t, s+s[:i+1], api.Date{}, api.Word)
		}
		wantRead(t, s+strings.Repeat("0", 100000), api.Date{}, api.Word)
		wantRead(t, strings.Repeat("0", 100000)+s, api.Date{}, api.Word)
		wantRead(t, strings.Repeat(s, 10000), api.Date{}, api.Word)
	}
	wantRead(t, strings.Repeat("9", 1000000), api.Date{}, api.Word)
	wantRead(t, strings.Repeat("-", 1000000), api.Date{}, api.Word)
}

// P5.3: each byte, and some runes, in place of each one of a print, and between each two.

func TestReadOfEachByteAtEachPlace(t *testing.T) {
	check := func(s string) {
		d, c := told(s)
		wantRead(t, s, d, c)
	}
	var pieces []string
	for b := range 256 {
		pieces = append(pieces, string([]byte{byte(b)}))
	}
	for _, r := range "٣３𝟑−‐－\u00ad\u0301\ufffd\u2028\U0010ffff" {
		pieces = append(pieces, string(r))
	}
	for _, s := range []string{"1970-01-01", "2000-02-29", "9999-12-31", "2011-11-11"} {
		for i := range len(s) {
			for _, x := range pieces {
				check(s[:i] + x + s[i+1:])
				check(s[:i] + x + s[i:])
			}
		}
		for _, x := range pieces {
			check(s + x)
		}
	}
}

// P5.3: all that is so written.

func TestReadOfAllSoWritten(t *testing.T) {
	for _, y := range []int{0, 1, 400, 999, 1000, 1600, 1900, 1968, 1969, 1970, 1971, 1972, 1999, 2000, 2001, 2004, 2100, 9900, 9996, 9999} {
		for m := range 100 {
			for n := range 100 {
				s := fmt.Sprintf("%04d-%02d-%02d", y, m, n)
				d, c := told(s)
				wantRead(t, s, d, c)
				if c == api.Fine && civil.Print(d) != s {
					t.Errorf("Print(%v): %q, not %q", d, civil.Print(d), s)
				}
			}
		}
	}
}

// P5.3: any texts of what dates are written with, and a little else.

func TestReadOfAnyTexts(t *testing.T) {
	r := rand.New(rand.NewSource(53))
	codes := map[api.Code]int{}
	for range 300000 {
		b := []byte(fmt.Sprintf("%04d-%02d-%02d", r.Intn(10000), r.Intn(14), r.Intn(33)))
		for range r.Intn(3) {
			i := r.Intn(len(b))
			switch r.Intn(4) {
			case 0:
				b[i] = "0129-- /:\xff"[r.Intn(10)]
			case 1:
				b = append(b[:i], b[i+1:]...)
			case 2:
				b = append(b[:i+1], b[i:]...)
			case 3:
				j := r.Intn(len(b))
				b[i], b[j] = b[j], b[i]
			}
		}
		d, c := told(string(b))
		wantRead(t, string(b), d, c)
		codes[c]++
	}
	for _, c := range []api.Code{api.Fine, api.Word, api.Range} {
		if codes[c] < 10000 {
			t.Errorf("code %d came up %d times only", c, codes[c])
		}
	}
}
