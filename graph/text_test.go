package graph_test

import (
	"fmt"
	"slices"
	"strings"
	"testing"

	"fourfold/api"
	"fourfold/graph"
)

// The tests of this file are those of P9.11.

// textOf is the text of a graph.
func textOf(g api.Graph) string {
	text := ""
	for v, name := range g.Names {
		text += name
		for _, w := range g.Edges[v] {
			text += fmt.Sprint(" ", w)
		}
		text += "\n"
	}
	return text
}

// named gives a graph other names.
func (n *numbers) named(g api.Graph) api.Graph {
	signs := []string{"a", "b", "0", "7", ",", "-", "é", "\t", "\x00", "\r", "\xff", "+", "(", "\""}
	for v := range g.Names {
		name := ""
		for range n.between(0, 10) {
			name += one(n, signs...)
		}
		if g.Names[v] = fmt.Sprint(name, v); n.between(0, 2) == 0 {
			g.Names[v] = fmt.Sprint(v, name)
		}
		if slices.Contains(g.Names[:v], g.Names[v]) {
			g.Names[v] = fmt.Sprint("x", v)
		}
	}
	return g
}

func TestTexts(t *testing.T) {
	n := numbers(60)
	for range 500 {
		g := n.named(n.graph(n.between(0, 12)))
		wantValid(t, fmt.Sprint(g), g)
		text, e := graph.Print(g)
		wantResult(t, fmt.Sprint("Print of ", g), text, e, textOf(g), api.OK)
		back, e := graph.Parse(text)
		wantResult(t, fmt.Sprintf("Parse of %q", text), back, e, g, api.OK)
	}
	for _, x := range []struct {
		g    api.Graph
		text string
	}{
		{api.Graph{}, ""}, {of(nil), "v0\n"}, {of([]int{0, 0}), "v0 0 0\n"}, {square(), "a 1 3\nb 0 2\nc 1 3\nd 0 2\n"}, {of(nil, nil), "v0\nv1\n"}, {of(nil, []int{0, 1}), "v0\nv1 0 1\n"},
		{api.Graph{Names: []string{"0", "1"}, Edges: [][]int{{0, 1}, nil}}, "0 0 1\n1\n"}, {circle(12, -1), "v0 11\nv1 0\nv2 1\nv3 2\nv4 3\nv5 4\nv6 5\nv7 6\nv8 7\nv9 8\nv10 9\nv11 10\n"},
	} {
		text, e := graph.Print(x.g)
		wantResult(t, fmt.Sprint("Print of ", x.g), text, e, x.text, api.OK)
		back, e := graph.Parse(x.text)
		wantResult(t, fmt.Sprintf("Parse of %q", x.text), back, e, x.g, api.OK)
	}
}

func TestGreatTexts(t *testing.T) {
	g := circle(api.MaxVertices, slices.Repeat([]int{1, 2, 3, 4}, 100)...)
	text, e := graph.Print(g)
	want(t, "Print of a great graph", e, api.OK)
	want(t, "Print of a great graph", strings.Count(text, "\n"), api.MaxVertices)
	want(t, "Print of a great graph", strings.Count(text, " "), api.MaxVertices*api.MaxDegree)
	back, e := graph.Parse(text)
	wantError(t, "Parse of it", api.ErrLarge, back, e)
	names := make([]string, api.MaxVertices)
	for v := range names {
		names[v] = fmt.Sprint(1000 + v)
	}
	g = api.Graph{Names: names, Edges: make([][]int, api.MaxVertices)}
	back, e = graph.Parse(textOf(g))
	wantResult(t, "Parse of the greatest number of vertices", back, e, g, api.OK)
	back, e = graph.Parse(textOf(g) + "x\n")
	wantError(t, "Parse of one vertex more", api.ErrSyntax, back, e)
}

func TestLengthsOfTexts(t *testing.T) {
	// Lines of 803 bytes with all neighbours that are possible, and one that is shorter.
	text := ""
	for v := 0; len(text)+803+50 < api.MaxText; v++ {
		text += fmt.Sprintf("%02d%s\n", v, strings.Repeat(" 0", api.MaxDegree))
	}
	rest := api.MaxText - len(text)
	count := (rest - 40) / 2
	text += long(rest-1-2*count) + strings.Repeat(" 0", count) + "\n"
	want(t, "the length of the text", len(text), api.MaxText)
	g, e := graph.Parse(text)
	want(t, "Parse of the longest text", e, api.OK)
	want(t, "the text of the longest text", textOf(g) == text, true)
	for _, s := range []string{"x" + text, text + "\n", text + text, strings.Repeat(" ", api.MaxText+1), strings.Repeat("\n", 1000000)} {
		g, e := graph.Parse(s)
		wantError(t, "Parse of a text that is too long", api.ErrLarge, g, e)
	}
	g, e = graph.Parse(strings.Repeat("\n", api.MaxText))
	wantError(t, "Parse of line feeds", api.ErrSyntax, g, e)
}

func TestNoTexts(t *testing.T) {
	far := strings.Repeat("9", 30)
	for _, s := range []string{
		"\n", " ", "a", "a ", "a 0", " \n", "a \n", " a\n", "a  0\n", "a 0 \n", " 0\n", "a\n\n", "\na\n", "a\nb", "a\n ", "a\n0 0", "a 0\n\nb 0\n", "a\r\n0 0\r\n ",
		"a 1\n", "a -1\n", "a -0\n", "a +0\n", "a 00\n", "a 01\nb\n", "a 1.0\nb\n", "a 0x0\n", "a 0b0\n", "a 0_0\n", "a 1e0\nb\n", "a b\n", "a b\nb\n", "a \x00\n", "a \t\n", "a\t0 \n", "a ,\n", "a 0,0\n", "a " + far + "\n", "a -" + far + "\n", "a 18446744073709551616\n", "a ٠\n",
		"a\na\n", "a 0\nb 1\na 0\n", "a 1 0\nb\n", "a 0 1 0\nb\n", "a 2\nb 0\n", long(41) + "\n", "a " + strings.Repeat("0 ", 400) + "0\n", "é é\n", "a\v0 \n",
	} {
		g, e := graph.Parse(s)
		wantError(t, fmt.Sprintf("Parse of %q", s), api.ErrSyntax, g, e)
	}
	g, e := graph.Parse("a\r 0\n")
	wantResult(t, "Parse of a name with a sign", g, e, api.Graph{Names: []string{"a\r"}, Edges: [][]int{{0}}}, api.OK)
}

func TestChangedTexts(t *testing.T) {
	n := numbers(61)
	accepted := 0
	for range 20000 {
		text := []byte(textOf(n.graph(n.between(1, 4))))
		for range n.between(1, 2) {
			at := n.between(0, len(text)-1)
			sign := one(&n, ' ', ' ', '\n', '0', '1', '-', 'a', '+')
			switch n.between(0, 2) {
			case 0:
				text[at] = byte(sign)
			case 1:
				text = slices.Insert(text, at, byte(sign))
			default:
				text = append(slices.Delete(text, at, at+1), '\n')
			}
		}
		g, e := graph.Parse(string(text))
		if e != api.OK {
			wantError(t, fmt.Sprintf("Parse of %q", text), api.ErrSyntax, g, e)
			continue
		}
		accepted++
		wantValid(t, fmt.Sprintf("the graph of %q", text), g)
		want(t, fmt.Sprintf("the text of the graph of %q", text), textOf(g), string(text))
	}
	if accepted < 1000 || accepted > 19000 {
		t.Errorf("%d texts accepted", accepted)
	}
}
