package span_test

import (
	"math"

	"narthex/api"
	"narthex/span"
)

// ways is how each page is found, gone through in the file's order as the document names them: another way than the program's, which divides.
func ways() []span.Way {
	var l []span.Way
	for inner := range 4 {
		l = append(l, span.Way{Depth: 0, Outer: 0, Inner: inner})
	}
	for inner := range 32 {
		l = append(l, span.Way{Depth: 1, Outer: 0, Inner: inner})
	}
	for outer := range 32 {
		for inner := range 32 {
			l = append(l, span.Way{Depth: 2, Outer: outer, Inner: inner})
		}
	}
	return l
}

// wantMeta asks of each page of numbers that a file may have whether one of the pages lies under it.
func wantMeta(l []int) int {
	under := func(from, to int) int {
		for _, i := range l {
			if from <= i && i < to {
				return 1
			}
		}
		return 0
	}
	n := under(4, 36) + under(36, 1060)
	for k := range 32 {
		n += under(36+32*k, 36+32*k+32)
	}
	return n
}

// wantNumber adds up two bytes.
func wantNumber(p api.Page, i int) int {
	if i < 0 || i > 31 {
		return 0
	}
	return 256*int(p[2*i]) + int(p[2*i+1])
}

// wantSet makes the page byte by byte; the lowest bytes of a number by division that rounds down.
func wantSet(p api.Page, i, n int) (out api.Page) {
	low := (n%65536 + 65536) % 65536
	for k, c := range p {
		switch {
		case 0 <= i && i <= 31 && k == 2*i:
			c = byte(low / 256)
		case 0 <= i && i <= 31 && k == 2*i+1:
			c = byte(low % 256)
		}
		out[k] = c
	}
	return out
}

// farInts are far beyond all edges; doubled, or times 32, or by their lowest bytes, some would be places that are there.
func farInts() []int {
	return []int{math.MinInt, math.MinInt + 1, math.MinInt + 4, math.MinInt + 36, -1 << 62, -1<<62 + 3, -1 << 60, -1 << 59, -1 << 58, -1<<32 - 1, -1 << 32, -1<<32 + 5, math.MinInt32, -65536, -65536 + 7, -32768, -1060, -1059, -257, -256, -255, -64, -36, -33, -32, -31, -5, -4, -3, -2,
		1 << 15, 65535, 65536, 65536 + 3, 65536 + 36, 1<<31 - 1, 1 << 31, 1<<32 - 1, 1 << 32, 1<<32 + 2, 1<<32 + 40, 1 << 58, 1<<58 + 1, 1 << 59, 1<<59 + 2, 1 << 60, 1<<61 + 1, 1 << 62, 1<<62 + 1, 1<<62 + 31, math.MaxInt - 36, math.MaxInt - 4, math.MaxInt - 1, math.MaxInt}
}

// noise is numbers that look like chance, the same in each run.
type noise struct{ seed uint64 }

func (n *noise) next() uint64 {
	n.seed = n.seed*6364136223846793005 + 1442695040888963407
	return n.seed ^ n.seed>>33
}

func (n *noise) below(most int) int { return int(n.next() >> 20 % uint64(most)) }

func (n *noise) page() (p api.Page) {
	for k := range p {
		p[k] = byte(n.next() >> 20)
	}
	return p
}

// somePages are zero, full, rising, falling, and noisy ones.
func somePages() []api.Page {
	var zero, full, rising, falling api.Page
	for k := range full {
		full[k], rising[k], falling[k] = 255, byte(k+1), byte(200-k)
	}
	n := noise{7}
	return []api.Page{zero, full, rising, falling, n.page(), n.page(), n.page(), n.page()}
}
