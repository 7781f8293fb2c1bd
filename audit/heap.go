package audit

import (
	"iter"

	"sacristan/api"
)

// thing is an Item that can be held against others: bytes that are the same are the same text.
type thing struct {
	at   int
	text string
}

// thingOf is x as a thing.
func thingOf(x api.Item) thing { return thing{x.At, string(x.Bytes)} }

// counted is how many of each thing l has.
func counted(l []api.Item) map[thing]int {
	many := make(map[thing]int, len(l))
	for _, x := range l {
		many[thingOf(x)]++
	}
	return many
}

// without tells what is left of a, in order, once as many of each thing are gone as b has of it, the first ones.
func without(a, b []api.Item) iter.Seq[api.Item] {
	return func(yield func(api.Item) bool) {
		gone := counted(b)
		for _, x := range a {
			if one := thingOf(x); gone[one] > 0 {
				gone[one]--
				continue
			}
			if !yield(x) {
				return
			}
		}
	}
}
