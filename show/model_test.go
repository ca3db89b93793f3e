package show_test

import (
	"slices"
	"strconv"
	"strings"

	"bolthole/api"
)

// templates are the table's rows that ask for nothing else: N is a part's Text, A and B are its first and second Kid's texts, L all of them with commas between.
var templates = map[string]string{
	"var": "var N A", "param": "N A",
	"name": "N", "id": "N", "num": "N", "str": "N",
	"star": "*A", "slice": "[]A",
	"for": "for A B", "assign": "A = B", "define": "A := B", "expr": "A",
	"unary": "NA", "binary": "A N B", "call": "N(L)", "index": "A[B]", "new": "new(L)", "make": "make(L)",
}

// strengths are the marks that stand between two, the weaker ones ahead.
var strengths = [][]string{{"||"}, {"&&"}, {"==", "!=", "<", "<=", ">", ">="}, {"+", "-"}, {"*", "/", "%"}}

// modelStrength is a mark's; one that is none is weaker than all.
func modelStrength(mark string) int {
	return slices.IndexFunc(strengths, func(l []string) bool { return slices.Contains(l, mark) })
}

// modelShow is a part's text, by the chapter's table, within other parts: the outermost one first.
func modelShow(p api.Part, about ...api.Part) string {
	if p.Kind == "field" && len(about) > 0 && about[len(about)-1].Kind == "type" {
		p.Kind = "param"
	}
	within := append(slices.Clip(about), p)
	kids := modelKids(p, within)
	three := append(slices.Clip(kids), "", "", "")
	switch p.Kind {
	case "func":
		two := append(slices.Clip(p.Kids), api.Part{}, api.Part{})
		params := strings.Join(modelKids(api.Part{Kids: two[0].Kids}, within), ", ")
		result := ""
		if l := modelKids(api.Part{Kids: two[1].Kids}, within); len(l) > 0 {
			result = l[0] + " "
		}
		return "func " + p.Text + "(" + params + ") " + result + three[2]
	case "type":
		return "type " + p.Text + " struct {" + modelLines(kids, "\n\t", "\n") + "}"
	case "field":
		return three[0] + "." + p.Text
	case "block":
		indent := "\n" + strings.Repeat("\t", modelIndent(about))
		return "{" + modelLines(kids, indent+"\t", indent) + "}"
	case "return":
		if len(kids) == 0 {
			return "return"
		}
		return "return " + kids[0]
	case "if":
		s := "if " + three[0] + " " + three[1]
		if len(kids) > 2 {
			s += " else " + kids[2]
		}
		return s
	}
	return strings.NewReplacer("N", p.Text, "A", three[0], "B", three[1], "L", strings.Join(kids, ", ")).Replace(templates[p.Kind])
}

// modelKids are the texts of a part's Kids, in brackets where they stand so, within it and others.
func modelKids(p api.Part, within []api.Part) []string {
	var l []string
	for i, k := range p.Kids {
		s := modelShow(k, within...)
		if modelBrackets(p, i) {
			s = "(" + s + ")"
		}
		l = append(l, s)
	}
	return l
}

// modelLines are texts with another one ahead of each, and one at the end, if there are any.
func modelLines(l []string, ahead, end string) string {
	if len(l) == 0 {
		return ""
	}
	return ahead + strings.Join(l, ahead) + end
}

// modelIndent is how many blocks stand about; what is in a `type` has one about it, whatever stands about that.
func modelIndent(about []api.Part) int {
	many := 0
	for _, p := range about {
		switch p.Kind {
		case "block":
			many++
		case "type":
			many = 1
		}
	}
	return many
}

// modelBrackets tells whether a part's Kid stands in brackets.
func modelBrackets(p api.Part, i int) bool {
	k := p.Kids[i]
	switch p.Kind + " " + strconv.Itoa(i) + " " + k.Kind {
	case "unary 0 binary", "field 0 binary", "field 0 unary", "index 0 binary", "index 0 unary":
		return true
	case "unary 0 unary":
		return p.Text == "&" && k.Text == "&"
	case "binary 0 binary":
		return modelStrength(k.Text) < modelStrength(p.Text)
	case "binary 1 binary":
		return modelStrength(k.Text) <= modelStrength(p.Text)
	}
	return false
}

// modelShape is a part's shape.
func modelShape(p api.Part) string {
	s := p.Kind + ":" + p.Text + "("
	for _, k := range p.Kids {
		s += modelShape(k)
	}
	return s + ")"
}

// told tells a part without its places, so that no two others are told so.
func told(p api.Part) string {
	var l []string
	for _, k := range p.Kids {
		l = append(l, told(k))
	}
	return strconv.Quote(p.Kind) + ":" + strconv.Quote(p.Text) + "(" + strings.Join(l, ", ") + ")"
}
