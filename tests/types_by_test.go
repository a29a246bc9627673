package tests

import (
	"math/big"
	"regexp"
	"slices"
	"strings"

	"loop.example/s01681/impl"
)

// partLetter tells what stands at a position of a list: v void, s scalar, a array, r struct or union, i one of these
// that is incomplete, f function. It is a capital letter when the position is not below the one that has it.
func partLetter(ts []impl.Type, own, at int) string {
	if at < 0 || at >= len(ts) {
		return "?"
	}
	letter := "?"
	if k := ts[at].K; k >= 1 && k <= 12 {
		letter = string("vsssssssarrf"[k-1])
	}
	if letter == "r" && len(ts[at].Of) == 0 {
		letter = "i"
	}
	if at >= own {
		letter = strings.ToUpper(letter)
	}
	return letter
}

// partPatterns say for each K what its Of may be.
var partPatterns = func() []*regexp.Regexp {
	out := []*regexp.Regexp{}
	for _, text := range []string{"", "", "", "", "", "", "", "", "[vsarifRI]", "[sar]", "[sarSAR]{0,100}", "[sarSAR]{0,100}", "[vs]s{0,8}"} {
		out = append(out, regexp.MustCompile("^"+text+"$"))
	}
	return out
}()

var fieldPattern = regexp.MustCompile(`\A[A-Za-z_][A-Za-z_0-9]{0,39}\z`)

// typesOkBy says by the document's rules, written as patterns, whether a list is valid.
func typesOkBy(ts []impl.Type) bool {
	if len(ts) > 2000 {
		return false
	}
	for own, one := range ts {
		if one.K < 1 || one.K > 12 {
			return false
		}
		letters := ""
		for _, at := range one.Of {
			letters += partLetter(ts, own, at)
		}
		isArray, isRecord := one.K == 9, one.K == 10 || one.K == 11
		if !partPatterns[one.K].MatchString(letters) || isArray && (one.N < 1 || one.N > 60000) || !isArray && one.N != 0 {
			return false
		}
		if isRecord && len(one.Names) != len(one.Of) || !isRecord && len(one.Names) > 0 {
			return false
		}
		sorted := slices.Sorted(slices.Values(one.Names))
		for _, name := range one.Names {
			if !fieldPattern.MatchString(name) || slices.Contains(strings.Fields(keyWords), name) {
				return false
			}
		}
		if len(slices.Compact(sorted)) != len(one.Names) {
			return false
		}
	}
	return len(insideOut(ts)) == len(ts)
}

// insideOut gives the positions of types, each behind all that lie within it; those that lie within themselves, or
// have such within them, are missing.
func insideOut(ts []impl.Type) []int {
	out, done := []int{}, make([]bool, len(ts))
	for before := -1; before != len(out); {
		before = len(out)
		for i, one := range ts {
			parts := one.Of
			if one.K != 9 && one.K != 10 && one.K != 11 {
				parts = nil
			}
			if !done[i] && !slices.ContainsFunc(parts, func(at int) bool { return !done[at] }) {
				done[i] = true
				out = append(out, i)
			}
		}
	}
	return out
}

// freely is a type laid out with numbers that have no bound.
type freely struct {
	size    *big.Int
	align   int64
	offsets []*big.Int
}

func (f freely) laid() laid { return laid{capped(f.size), int(f.align)} }

// capped is MaxObject + 1 for all that is greater than MaxObject.
func capped(n *big.Int) int {
	if n.Cmp(big.NewInt(60000)) > 0 {
		return 60001
	}
	return int(n.Int64())
}

func alignedUp(n *big.Int, align int64) *big.Int {
	out := new(big.Int).Set(n)
	for new(big.Int).Mod(out, big.NewInt(align)).Sign() != 0 {
		out.Add(out, big.NewInt(1))
	}
	return out
}

// laidBy lays out all types of a valid list.
func laidBy(ts []impl.Type) []freely {
	out := make([]freely, len(ts))
	for _, i := range insideOut(ts) {
		one := ts[i]
		switch {
		case one.K == 9:
			element := out[one.Of[0]]
			out[i] = freely{size: new(big.Int).Mul(big.NewInt(int64(one.N)), element.size), align: element.align}
		case one.K == 10 || one.K == 11:
			out[i] = recordBy(out, one)
		default:
			n := []int64{0, 0, 1, 1, 2, 2, 4, 4, 4, 0, 0, 0, 0}[one.K]
			out[i] = freely{size: big.NewInt(n), align: n}
		}
	}
	return out
}

func recordBy(all []freely, one impl.Type) freely {
	whole, end := freely{size: new(big.Int)}, new(big.Int)
	for _, at := range one.Of {
		offset := new(big.Int)
		if one.K == 10 {
			offset = alignedUp(end, all[at].align)
		}
		end = new(big.Int).Add(offset, all[at].size)
		if end.Cmp(whole.size) > 0 {
			whole.size = end
		}
		whole.align = max(whole.align, all[at].align)
		whole.offsets = append(whole.offsets, offset)
	}
	if whole.align > 0 {
		whole.size = alignedUp(whole.size, whole.align)
	}
	return whole
}

// sameBy holds two types against each other, and what they are made of.
func sameBy(ts []impl.Type, a, b int) bool {
	one, two := ts[a], ts[b]
	if a == b || one.K == 10 || one.K == 11 {
		return a == b
	}
	return one.K == two.K && one.N == two.N && slices.EqualFunc(one.Of, two.Of, func(x, y int) bool { return sameBy(ts, x, y) })
}
