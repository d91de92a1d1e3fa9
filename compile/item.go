package compile

import "firebell/api"

// handlers: what is done with an item that may stand in a list, by its name.
//
// A handler asks for the item's form first, then whether it may count beside those ahead of it, then for its number: so the code that comes up is that of its first fault. Kids are looked at behind all that, as an item counts, whatever is wrong within it.
type handlers map[string]func(*item)

// item is one that is looked at.
type item struct {
	api.Item
	// counted: how many count ahead of it in its list.
	counted map[key]int
	// second name by which it will count, if it may stand more than once.
	second string
}

// key of items that count: those of a name and a second one, or, if that is empty, all those of a name.
type key struct{ name, second string }

// faults are all that were found, in the order in which they are told.
type faults []api.Fault

// add one.
func (f *faults) add(c api.Code, at api.Spot) {
	*f = append(*f, api.Fault{Code: c, At: at})
}

// each item of a list is handled: it counts, or has its fault.
func (f *faults) each(l []api.Item, all handlers) {
	counted := map[key]int{}
	for _, x := range l {
		i := &item{Item: x, counted: counted}
		if c := caught(all[x.Name], i); c != api.Fine {
			f.add(c, x.At)
			continue
		}
		i.count()
	}
}

// caught: the code that comes up from what is done with an item. Where nothing is, none of its name may stand.
func caught(handle func(*item), x *item) (c api.Code) {
	defer func() {
		if found := recover(); found != nil {
			c = found.(api.Code)
		}
	}()
	if handle == nil {
		panic(api.Name)
	}
	handle(x)
	return api.Fine
}

// form: so many words, and a block or none.
func (x *item) form(words int, block bool) {
	need(len(x.Words) == words && x.Block == block)
}

// once: it may stand once.
func (x *item) once() {
	if x.counted[key{x.Name, ""}] > 0 {
		panic(api.Known)
	}
}

// named: it may stand once with this second name, and so many times in all.
func (x *item) named(second string, most int) {
	if x.counted[key{x.Name, second}] > 0 {
		panic(api.Known)
	}
	if x.counted[key{x.Name, ""}] == most {
		panic(api.Long)
	}
	x.second = second
}

// count it among those of its name.
func (x *item) count() {
	x.counted[key{x.Name, ""}]++
	if x.second != "" {
		x.counted[key{x.Name, x.second}]++
	}
}
