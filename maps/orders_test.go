package maps_test

import (
	"testing"

	"narthex/maps"
)

// acts are the calls that change a map, and one that may, of three keys.
func acts() []call {
	l := []call{{name: "Clear"}}
	for key := -1; key <= 1; key++ {
		l = append(l, call{name: "Put", key: key}, call{name: "Use", key: key}, call{name: "Drop", key: key}, call{name: "Word", key: key, i: 2, n: 6}, call{name: "Get", key: key})
	}
	return l
}

// P17.1: every order of a few calls, on maps of both kinds with room for one and for two, against a plain list.
func TestEveryOrder(t *testing.T) {
	l := acts()
	for _, kind := range kinds {
		for room := 1; room <= 2; room++ {
			for n := range len(l) * len(l) * len(l) * len(l) {
				x := newPair(t, kind, room)
				for at, rest := 0, n; at < 4; at, rest = at+1, rest/len(l) {
					c := l[rest%len(l)]
					c.v = maps.Value{at + 1}
					if got, want := on(x.m, c), x.p.on(c); got != want {
						t.Fatalf("kind %d, room %d: %+v: %+v, not %+v", kind, room, c, got, want)
					}
				}
				x.same(t, call{name: "all"})
			}
		}
	}
}

// P17.1: many calls on maps of both kinds and each room, against a plain list, which never has more entries than room.
func TestManyCalls(t *testing.T) {
	names := []string{"Get", "Use", "Use", "Put", "Put", "Put", "Put", "Put", "Word", "Drop", "All", "Len"}
	for _, kind := range kinds {
		for room := 1; room <= 8; room++ {
			c := chance(100*kind + room)
			x := newPair(t, kind, room)
			keys := farInts[c.below(8):][:11]
			for range 3000 {
				v := maps.Value{c.below(100), c.of(farInts), c.of(farInts), -c.below(9)}
				k := call{name: names[c.below(len(names))], key: c.of(keys), i: c.below(7) - 1, n: c.of(farInts), v: v}
				if c.below(150) == 0 {
					k.name = "Clear"
				}
				x.do(t, k)
			}
		}
	}
}
