// Package sum is layer 1: a check sum over bytes: see shared/doc/01-sum.md.
package sum

import "narthex/api"

// modulus is above 255 times 256: two unlike bytes that change places move b by no more than that, so neither this nor another byte's coming instead can be lost.
const modulus = 65535

// Sum is the sum of texts.
func Sum(l ...string) uint32 { return More(0, l...) }

// More is the sum with more texts behind.
func More(sum uint32, l ...string) uint32 {
	a, b := split(sum)
	for _, s := range l {
		a, b = add(a, b, s)
	}
	return join(a, b)
}

// Pages is the sum of pages.
func Pages(l ...api.Page) uint32 {
	a, b := split(0)
	for _, p := range l {
		a, b = add(a, b, string(p[:]))
	}
	return join(a, b)
}

// split takes both halves modulo: a sum that is none may be handed in.
func split(sum uint32) (a, b uint32) {
	return (sum & 0xFFFF) % modulus, (sum >> 16) % modulus
}

func join(a, b uint32) uint32 { return b<<16 | a }

func add(a, b uint32, s string) (uint32, uint32) {
	for i := range len(s) {
		a = (a + uint32(s[i])) % modulus
		b = (b + a) % modulus
	}
	return a, b
}
