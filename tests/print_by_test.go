package tests

import (
	"slices"
	"strconv"
	"strings"

	"loop.example/s01681/impl"
)

// A second printer: it makes lists of tokens from the inside outwards, as the document says it.

var (
	basesBy    = []string{"", "void", "char", "unsigned char", "short", "unsigned short", "int", "unsigned int"}
	tagsBy     = []string{"", "struct", "union", "enum"}
	stepsBy    = []string{"", "++", "--"}
	unariesBy  = strings.Fields("0 + - ~ ! * &")
	binariesBy = strings.Fields("0 * / % + - << >> < > <= >= == != & ^ | && ||")
)

func assignsBy(m int) string {
	if m == 0 {
		return "="
	}
	return binariesBy[m] + "="
}

func printBy(g *grown) string {
	out := ""
	for _, token := range tokensOf(g) {
		if slices.Contains([]string{";", "{", "}"}, token) {
			out += token + "\n"
		} else {
			out += token + " "
		}
	}
	return out
}

// list is tokens and lists of tokens in one.
func list(parts ...any) []string {
	out := []string{}
	for _, part := range parts {
		switch part := part.(type) {
		case string:
			out = append(out, part)
		case []string:
			out = append(out, part...)
		}
	}
	return out
}

func listOf(kids []*grown, between string, of func(*grown) []string) []string {
	out := []string{}
	for i, kid := range kids {
		if i > 0 && between != "" {
			out = append(out, between)
		}
		out = append(out, of(kid)...)
	}
	return out
}

// declarationOf goes outwards from what is made around the name so far.
func declarationOf(around []string, g *grown) []string {
	switch kindNames[g.K] {
	case "base":
		return list(strings.Fields(basesBy[g.N]), around)
	case "tag":
		return list(tagsBy[g.M], g.S, around)
	case "alias":
		return list(g.S, around)
	case "pointer":
		around = list("*", around)
		if kid := kindNames[g.kids[0].K]; kid == "array" || kid == "function" {
			around = list("(", around, ")")
		}
	case "array":
		around = list(around, "[", listOf(g.kids[1:], "", argumentOf), "]")
	case "function":
		params := list("void")
		if len(g.kids) > 1 {
			params = listOf(g.kids[1:], ",", tokensOf)
		}
		around = list(around, "(", params, ")")
	}
	return declarationOf(around, g.kids[0])
}

func namedOf(g *grown) []string {
	if g.S == "" {
		return declarationOf(nil, g.kids[0])
	}
	return declarationOf([]string{g.S}, g.kids[0])
}

func operandOf(g *grown) []string {
	switch kindNames[g.K] {
	case "number", "string", "name", "index", "call", "member", "arrow", "post":
		return tokensOf(g)
	}
	return list("(", tokensOf(g), ")")
}

func argumentOf(g *grown) []string {
	if kind := kindNames[g.K]; kind == "assignment" || kind == "comma" {
		return list("(", tokensOf(g), ")")
	}
	return tokensOf(g)
}

func withValue(kids []*grown) []string {
	if len(kids) == 0 {
		return nil
	}
	return list("=", argumentOf(kids[0]))
}

func tokensOf(g *grown) []string {
	kids := g.kids
	switch kindNames[g.K] {
	case "unit":
		return listOf(kids, "", tokensOf)
	case "param":
		return namedOf(g)
	case "field":
		return list(namedOf(g), ";")
	case "typedef":
		return list("typedef", namedOf(g), ";")
	case "var":
		return list(namedOf(g), withValue(kids[1:]), ";")
	case "definition":
		return list(namedOf(g), tokensOf(kids[1]))
	case "structure":
		return list(tagsBy[g.M], g.S, "{", listOf(kids, "", tokensOf), "}", ";")
	case "enumeration":
		return list("enum", g.S, "{", listOf(kids, ",", tokensOf), "}", ";")
	case "enumer":
		return list(g.S, withValue(kids))
	case "list":
		return list("{", listOf(kids, ",", argumentOf), "}")
	}
	if g.K < kindOf("number") {
		return stmtOf(g)
	}
	return exprOf(g)
}

func stmtOf(g *grown) []string {
	kids := g.kids
	switch kind := kindNames[g.K]; kind {
	case "block":
		return list("{", listOf(kids, "", tokensOf), "}")
	case "expression", "empty":
		return list(listOf(kids, "", tokensOf), ";")
	case "if", "while", "switch":
		out := list(kind, "(", tokensOf(kids[0]), ")", tokensOf(kids[1]))
		if len(kids) > 2 {
			out = list(out, "else", tokensOf(kids[2]))
		}
		return out
	case "do":
		return list("do", tokensOf(kids[0]), "while", "(", tokensOf(kids[1]), ")", ";")
	case "for":
		third := tokensOf(kids[2])
		return list("for", "(", tokensOf(kids[0]), tokensOf(kids[1]), third[:len(third)-1], ")", tokensOf(kids[3]))
	case "case":
		return list("case", argumentOf(kids[0]), ":", tokensOf(kids[1]))
	case "default":
		return list("default", ":", tokensOf(kids[0]))
	case "label":
		return list(g.S, ":", tokensOf(kids[0]))
	case "goto":
		return list("goto", g.S, ";")
	default:
		return list(kind, listOf(kids, "", tokensOf), ";")
	}
}

func exprOf(g *grown) []string {
	kids := g.kids
	switch kindNames[g.K] {
	case "number":
		if g.S == "c" {
			return list(impl.TokenText(integer(g.N, "c")))
		}
		return list(strconv.Itoa(g.N) + g.S)
	case "string":
		return list(impl.QuoteText(g.S))
	case "name":
		return list(g.S)
	case "index":
		return list(operandOf(kids[0]), "[", tokensOf(kids[1]), "]")
	case "call":
		return list(operandOf(kids[0]), "(", listOf(kids[1:], ",", argumentOf), ")")
	case "member":
		return list(operandOf(kids[0]), ".", g.S)
	case "arrow":
		return list(operandOf(kids[0]), "->", g.S)
	case "post":
		return list(operandOf(kids[0]), stepsBy[g.M])
	case "pre":
		return list(stepsBy[g.M], operandOf(kids[0]))
	case "unary":
		return list(unariesBy[g.M], operandOf(kids[0]))
	case "sizeofexpr":
		return list("sizeof", operandOf(kids[0]))
	case "sizeoftype":
		return list("sizeof", "(", declarationOf(nil, kids[0]), ")")
	case "cast":
		return list("(", declarationOf(nil, kids[0]), ")", operandOf(kids[1]))
	case "binary":
		return list(operandOf(kids[0]), binariesBy[g.M], operandOf(kids[1]))
	case "condition":
		return list(operandOf(kids[0]), "?", operandOf(kids[1]), ":", operandOf(kids[2]))
	case "assignment":
		return list(operandOf(kids[0]), assignsBy(g.M), operandOf(kids[1]))
	}
	return list(operandOf(kids[0]), ",", operandOf(kids[1]))
}
