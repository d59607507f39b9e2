package delta

import (
	"slices"
	"strings"

	"rolodex/api"
	"rolodex/sign"
)

// places are blocks, each with the place of the first one like it. They answer as sign's Find does: that one makes its map anew at each call, and there is a call for each byte of a value.
type places map[api.Sig]int

func placesOf(sig []api.Sig) places {
	m := make(places, len(sig))
	// From the last one on, so that of blocks that are alike the first one stands.
	for place, block := range slices.Backward(sig) {
		m[block] = place
	}
	return m
}

// find is the place of the first block that the next eight bytes are like.
func (m places) find(next string) (int, bool) {
	// Without blocks no digest need be worked out.
	if len(m) == 0 || len(next) < api.Block {
		return 0, false
	}
	place, is := m[sign.One(next[:api.Block])]
	return place, is
}

// gathering is pieces, put together one behind the other. A text among them is a part of the value that is made, by From and Len, as a copy is of the other one: so both grow alike, and no byte is written again for each that comes behind it.
type gathering struct {
	l    []api.Piece
	last *api.Piece // l's last one, nil if there is none
}

// add is a piece more, or more of the last one, if that ends just where the piece begins.
func (g *gathering) add(p api.Piece) {
	if g.last != nil && g.last.Copy == p.Copy && g.last.From+g.last.Len == p.From {
		g.last.Len += p.Len
		return
	}
	g.l = append(g.l, p)
	g.last = &g.l[len(g.l)-1]
}

// told is the pieces with their texts, which are parts of s.
func (g *gathering) told(s string) []api.Piece {
	for i, p := range g.l {
		if !p.Copy {
			g.l[i] = api.Piece{Lit: strings.Clone(s[p.From : p.From+p.Len])}
		}
	}
	return g.l
}
