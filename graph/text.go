package graph

import (
	"strconv"
	"strings"

	"fourfold/api"
)

// Print returns the text of a graph.
func Print(g api.Graph) (string, api.Errno) {
	l, e := accept(g)
	if e != api.OK {
		return "", e
	}
	var text strings.Builder
	for v, list := range l {
		text.WriteString(g.Names[v])
		for _, w := range list {
			text.WriteString(" " + strconv.Itoa(w))
		}
		text.WriteString("\n")
	}
	return text.String(), api.OK
}

// read returns the graph with the text s, and anything if there is none.
func read(s string) api.Graph {
	var g api.Graph
	lines := strings.Split(s, "\n")
	for _, line := range lines[:len(lines)-1] {
		words := strings.Split(line, " ")
		var list []int
		for _, word := range words[1:] {
			v, _ := strconv.Atoi(word)
			list = append(list, v)
		}
		g.Names = append(g.Names, words[0])
		g.Edges = append(g.Edges, list)
	}
	return g
}

// Parse returns the graph with the text s.
func Parse(s string) (api.Graph, api.Errno) {
	if len(s) > api.MaxText {
		return api.Graph{}, api.ErrLarge
	}
	// A graph has one text only: whatever is read is held against s.
	g := read(s)
	if text, e := Print(g); e != api.OK || text != s {
		return api.Graph{}, api.ErrSyntax
	}
	return g, api.OK
}
