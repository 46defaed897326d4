// Package tab is layer 1: see shared/doc/01-tab.md.
package tab

import "bower/api"

// Variables below lowVars differ between rows of one word; the others only from word to word.
const (
	lowVars  = 6
	wordRows = 1 << lowVars
	allTrue  = ^uint64(0)
)

// lowWords has, for each variable below lowVars, the word that is the same in all four places of its function.
var lowWords = [lowVars]uint64{
	0xaaaaaaaaaaaaaaaa,
	0xcccccccccccccccc,
	0xf0f0f0f0f0f0f0f0,
	0xff00ff00ff00ff00,
	0xffff0000ffff0000,
	0xffffffff00000000,
}

// Const tells b in each row: P1.1.
func Const(b bool) api.Func {
	if b {
		return Not(api.Func{})
	}
	return api.Func{}
}

// Var tells v's value in each row, and false in each if v is no variable: P1.1.
func Var(v int) api.Func {
	var f api.Func
	if v < 0 || v >= api.Vars {
		return f
	}
	for w := range f {
		f[w] = varWord(v, w)
	}
	return f
}

// varWord tells word w of the variable v.
func varWord(v, w int) uint64 {
	if v < lowVars {
		return lowWords[v]
	}
	if w>>(v-lowVars)&1 == 1 {
		return allTrue
	}
	return 0
}

// Not is row by row: P1.2.
func Not(f api.Func) api.Func {
	for w := range f {
		f[w] = ^f[w]
	}
	return f
}

// And is row by row: P1.2.
func And(f, g api.Func) api.Func {
	for w := range f {
		f[w] &= g[w]
	}
	return f
}

// Or is row by row: P1.2.
func Or(f, g api.Func) api.Func {
	for w := range f {
		f[w] |= g[w]
	}
	return f
}

// Xor is row by row: P1.2.
func Xor(f, g api.Func) api.Func {
	for w := range f {
		f[w] ^= g[w]
	}
	return f
}

// Ite has in each row g's value where f's is true, else h's: P1.2.
func Ite(f, g, h api.Func) api.Func {
	for w := range f {
		f[w] = f[w]&g[w] | ^f[w]&h[w]
	}
	return f
}

// At tells the value in row x, and false if x is no row: P1.1.
func At(f api.Func, x int) bool {
	if x < 0 || x >= api.Rows {
		return false
	}
	return f[x/wordRows]>>(x%wordRows)&1 == 1
}
