package graph

import (
	"cabal/api"
	"cabal/frame"
)

const wordBits = 64

// marks are places of a graph.
type marks [(api.MaxOps + wordBits - 1) / wordBits]uint64

func (m *marks) add(i int) { m[i/wordBits] |= 1 << (i % wordBits) }

func (m *marks) has(i int) bool { return m[i/wordBits]>>(i%wordBits)&1 == 1 }

// join adds all places of other marks.
func (m *marks) join(other marks) {
	for i := range m {
		m[i] |= other[i]
	}
}

// looked is what was looked at of a graph: where its nodes are, and what is ahead of each.
type looked struct {
	nodes  []api.Node
	places map[api.Key]int
	pasts  [api.MaxOps]marks
}

// Right says whether a graph may be.
func Right(l []api.Node) bool {
	if len(l) > api.MaxOps {
		return false
	}
	s := looked{nodes: l, places: make(map[api.Key]int, len(l))}
	for i, n := range l {
		if _, twice := s.places[n.Id]; twice || !frame.Right(n.Op) || (n.Op.Kind == api.OpCreate) != (i == 0) {
			return false
		}
		if !s.parents(i) || !s.past(i) || !s.seq(i) {
			return false
		}
		s.places[n.Id] = i
	}
	return true
}

// parents says whether a node's parents are earlier ones, and keeps what is ahead of it.
func (s *looked) parents(i int) bool {
	for _, parent := range s.nodes[i].Op.Parents {
		at, ok := s.places[parent]
		if !ok {
			return false
		}
		s.pasts[i].add(at)
		s.pasts[i].join(s.pasts[at])
	}
	return true
}

// past says whether a node's Past is what is ahead of it, in order.
func (s *looked) past(i int) bool {
	rest := s.nodes[i].Past
	for at := range i {
		if !s.pasts[i].has(at) {
			continue
		}
		if len(rest) == 0 || rest[0] != at {
			return false
		}
		rest = rest[1:]
	}
	return len(rest) == 0
}

// seq says whether all earlier nodes of a node's author are ahead of it, and its number is the next one.
func (s *looked) seq(i int) bool {
	o := s.nodes[i].Op
	n := uint64(1)
	for at := range i {
		if s.nodes[at].Op.Author != o.Author {
			continue
		}
		if !s.pasts[i].has(at) {
			return false
		}
		n++
	}
	return uint64(o.Seq) == n
}
