package tests

import (
	"regexp"
	"slices"
	"strconv"
	"strings"

	"loop.example/s01681/impl"
)

// treeRows is the document's table: kind, sorts, fields, kids. A function and a block have sorts of their own, since a
// function definition asks for them; an item is what stands in a block, first and next what stands in a for.
const treeRows = `
base | type | N1-7 |
pointer | type | | type
array | type | | type expr?
function | type function | | type param*
tag | type | M1-3 WORD |
alias | type | ALIAS |
param | param | MAYBE | type
field | field | NAME | type
enumer | enumer | NAME | expr?
structure | top | M1-2 WORD | field+
enumeration | top | WORD | enumer+
typedef | top | NAME | type
var | top item first | NAME | type init?
definition | top | NAME | function block
unit | | | top*
list | init | | init+
block | stmt item block | | item*
expression | stmt item first next | | expr
empty | stmt item first next | |
if | stmt item | | expr stmt stmt?
while | stmt item | | expr stmt
do | stmt item | | stmt expr
for | stmt item | | first next next stmt
switch | stmt item | | expr stmt
case | stmt item | | expr stmt
default | stmt item | | stmt
label | stmt item | NAME | stmt
goto | stmt item | NAME |
break | stmt item | |
continue | stmt item | |
return | stmt item | | expr?
number | expr init | INT |
string | expr init | STR |
name | expr init | NAME |
index | expr init | | expr expr
call | expr init | | expr expr*
member | expr init | WORD | expr
arrow | expr init | WORD | expr
post | expr init | M1-2 | expr
pre | expr init | M1-2 | expr
unary | expr init | M1-6 | expr
sizeofexpr | expr init | | expr
sizeoftype | expr init | | type
cast | expr init | | type expr
binary | expr init | M1-18 | expr expr
condition | expr init | | expr expr expr
assignment | expr init | M0-7,14-16 | expr expr
comma | expr init | | expr expr
`

// treeRow has its kids as a pattern over the letters of kinds.
type treeRow struct {
	fields []string
	kids   *regexp.Regexp
}

// letterOf is another letter for each K that may be, and the same for all that may not.
func letterOf(k int) string {
	if k < 0 || k > 60 {
		k = 0
	}
	return string(rune(0x400 + k))
}

var rowsBy = func() map[int]treeRow {
	lines := strings.Split(strings.TrimSpace(treeRows), "\n")
	letters := map[string]string{}
	for _, line := range lines {
		parts := strings.Split(line, "|")
		for sort := range strings.FieldsSeq(parts[1]) {
			letters[sort] += letterOf(kindOf(strings.TrimSpace(parts[0])))
		}
	}
	out := map[int]treeRow{}
	for _, line := range lines {
		parts := strings.Split(line, "|")
		kids := regexp.MustCompile(`\w+`).ReplaceAllStringFunc(parts[3], func(sort string) string { return "[" + letters[sort] + "]" })
		out[kindOf(strings.TrimSpace(parts[0]))] = treeRow{
			fields: strings.Fields(parts[2]),
			kids:   regexp.MustCompile("^" + strings.ReplaceAll(kids, " ", "") + "$"),
		}
	}
	return out
}()

// validBy is a second TreeOk.
func validBy(tree impl.Tree) bool {
	count := len(tree.Nodes)
	if count < 1 || count > impl.MaxNodes || tree.Nodes[count-1].K != kindOf("unit") || stretchBy(tree, count-1, 0) != 0 {
		return false
	}
	aliases := []string{}
	for i, n := range tree.Nodes {
		row, ok := rowsBy[n.K]
		letters := ""
		for _, kid := range n.Kids {
			letters += letterOf(tree.Nodes[kid].K)
		}
		if !ok || !row.kids.MatchString(letters) || !fieldsBy(n, row.fields, aliases) || i < count-1 && n.K == kindOf("unit") {
			return false
		}
		if n.K == kindOf("typedef") {
			aliases = append(aliases, n.S)
		}
	}
	return !hidesBy(grownOf(tree))
}

// stretchBy is the first place of a node's stretch, or -1.
func stretchBy(tree impl.Tree, at, steps int) int {
	if steps > impl.MaxTall {
		return -1
	}
	begin := at
	for _, kid := range slices.Backward(tree.Nodes[at].Kids) {
		if kid != begin-1 || kid < 0 {
			return -1
		}
		if begin = stretchBy(tree, kid, steps+1); begin < 0 {
			return -1
		}
	}
	return begin
}

var wordPattern = regexp.MustCompile(`^[A-Za-z_][A-Za-z_0-9]{0,39}$`)

func isWordBy(s string) bool {
	return wordPattern.MatchString(s) && !slices.Contains(strings.Fields(keyWords), s)
}

func fieldsBy(n impl.Node, fields, aliases []string) bool {
	isAlias := slices.Contains(aliases, n.S)
	usesM, usesN, usesS := false, false, false
	for _, field := range fields {
		ok := true
		switch {
		case field[0] == 'M' && field != "MAYBE":
			usesM, ok = true, inRanges(n.M, field[1:])
		case field == "N1-7":
			usesN, ok = true, inRanges(n.N, "1-7")
		case field == "INT":
			usesN, usesS, ok = true, true, impl.TokenText(integer(n.N, n.S)) != ""
		case field == "STR":
			usesS, ok = true, len(n.S) <= impl.MaxString
		case field == "WORD":
			usesS, ok = true, isWordBy(n.S)
		case field == "NAME":
			usesS, ok = true, isWordBy(n.S) && !isAlias
		case field == "MAYBE":
			usesS, ok = true, n.S == "" || isWordBy(n.S) && !isAlias
		case field == "ALIAS":
			usesS, ok = true, isAlias
		}
		if !ok {
			return false
		}
	}
	placed := inRanges(n.Line, "0-1000000") && inRanges(n.Col, "0-1000000")
	return placed && (usesM || n.M == 0) && (usesN || n.N == 0) && (usesS || n.S == "")
}

// inRanges reads ranges as 0-7,14-16.
func inRanges(n int, ranges string) bool {
	for one := range strings.SplitSeq(ranges, ",") {
		low, high, _ := strings.Cut(one, "-")
		least, _ := strconv.Atoi(low)
		most, _ := strconv.Atoi(high)
		if n >= least && n <= most {
			return true
		}
	}
	return false
}

// hidesBy finds a function whose one param would be read as none, or an else that would be read as another's.
func hidesBy(g *grown) bool {
	switch kindNames[g.K] {
	case "function":
		if len(g.kids) == 2 && g.kids[1].show(false) == "param(base=1)" {
			return true
		}
	case "if":
		if len(g.kids) == 3 && isOpenBy(g.kids[1]) {
			return true
		}
	}
	return slices.ContainsFunc(g.kids, hidesBy)
}
