// Package topo is layer 1: see shared/doc/01-topo.md.
package topo

import (
	"catafalque/api"
)

// Check tells whether a tree may be.
func Check(t []api.Vertex) api.Errno {
	if len(t) < 1 || len(t) > api.MaxVerts || len(Procs(t)) > api.MaxPs {
		return api.ErrForm
	}
	for v := range len(t) {
		if !hangs(t, v) || !filled(t, v) {
			return api.ErrForm
		}
	}
	return api.OK
}

// Procs are the processors.
func Procs(t []api.Vertex) []int {
	return those(t, func(x api.Vertex) bool { return x.Level == api.Proc })
}

// Nodes are the nodes.
func Nodes(t []api.Vertex) []int {
	return those(t, func(x api.Vertex) bool { return x.Level == api.Node })
}

// Up is the vertex of a level above one, or it itself.
func Up(t []api.Vertex, v, level int) int {
	// Each vertex must stand ahead of the one from which it was come to: so the
	// bound falls, and the way ends, also where Parents go round in a ring.
	bound := len(t)
	for 0 <= v && v < bound {
		if t[v].Level == level {
			return v
		}
		bound, v = v, t[v].Parent
	}
	return -1
}

// Kids are the vertices below one.
func Kids(t []api.Vertex, v int) []int {
	return those(t, func(x api.Vertex) bool { return x.Parent == v })
}

// those are the numbers of the vertices that are as asked.
func those(t []api.Vertex, asked func(x api.Vertex) bool) []int {
	var l []int
	for v := range len(t) {
		if asked(t[v]) {
			l = append(l, v)
		}
	}
	return l
}

// hangs tells whether a vertex has the Parent and the Level that it may have.
func hangs(t []api.Vertex, v int) bool {
	x := t[v]
	if v == 0 {
		return x.Parent == -1 && x.Level == api.Machine
	}
	if x.Parent < 0 || x.Parent >= v {
		return false
	}
	return x.Level <= api.Proc && t[x.Parent].Level == x.Level-1
}

// filled tells whether a vertex has as many below it as it may have. Below a
// processor hangs nobody: the Level of who did would be too great for hangs.
func filled(t []api.Vertex, v int) bool {
	if t[v].Level >= api.Proc {
		return true
	}
	n := len(Kids(t, v))
	return 1 <= n && n <= api.MaxKids
}
