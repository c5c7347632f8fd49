package term

import "cabal/api"

// search is what is known so far of what follows from some keys.
type search struct {
	terms  []api.Term
	places map[string]int
	users  map[api.Key][]int // the terms that have a key among theirs
	known  []bool
	todo   []int // known terms whose consequences were not looked at
}

// Follow tells what follows of what was seen.
func (t *Table) Follow(seen ...api.Key) func(api.Key) bool {
	s := t.begin()
	for _, k := range seen {
		s.learn(k)
	}
	for i := range s.terms {
		s.try(i)
	}
	for len(s.todo) > 0 {
		i := s.todo[len(s.todo)-1]
		s.todo = s.todo[:len(s.todo)-1]
		s.use(i)
	}
	known := s.known
	return func(k api.Key) bool { return follows(known, k) }
}

func (t *Table) begin() *search {
	s := &search{users: map[api.Key][]int{}, known: make([]bool, t.Len())}
	if t == nil {
		return s
	}
	s.terms, s.places = t.terms, t.places
	for i, x := range s.terms {
		for _, k := range x.Keys {
			s.users[k] = append(s.users[k], i)
		}
	}
	return s
}

// follows says whether a key is a known term, or a raw key that is no later term's name.
func follows(known []bool, k api.Key) bool {
	place, named := placeOf(k)
	return !named || place < len(known) && known[place]
}

// learn lets a key be known, if it is a term's name.
func (s *search) learn(k api.Key) {
	if place, named := placeOf(k); named && place < len(s.known) && !s.known[place] {
		s.known[place] = true
		s.todo = append(s.todo, place)
	}
}

// use looks at what a known term leads to.
func (s *search) use(i int) {
	name, x := nameOf(i), s.terms[i]
	s.open(i)
	for _, user := range s.users[name] {
		s.try(user)
		s.open(user)
	}
	if x.Kind == api.Pub { // the public key will do, where two agree
		for _, user := range s.users[x.Keys[0]] {
			s.try(user)
		}
	}
}

// open learns what is in a known box whose key is known.
func (s *search) open(i int) {
	x := s.terms[i]
	if x.Kind != api.Seal || !s.known[i] || !follows(s.known, x.Keys[0]) {
		return
	}
	for _, k := range x.Keys[2:] {
		s.learn(k)
	}
}

// try learns a term that can be made.
func (s *search) try(i int) {
	if !s.known[i] && s.makes(s.terms[i]) {
		s.learn(nameOf(i))
	}
}

func (s *search) makes(x api.Term) bool {
	switch x.Kind {
	case api.Hash, api.Odd, api.Seal, api.Pub:
		for _, k := range x.Keys {
			if !follows(s.known, k) {
				return false
			}
		}
		return true
	case api.Agree:
		return s.agrees(x.Keys[0], x.Keys[1]) || s.agrees(x.Keys[1], x.Keys[0])
	}
	return false
}

// agrees says whether the one secret is known, and the other one or its public key.
func (s *search) agrees(one, other api.Key) bool {
	if !follows(s.known, one) {
		return false
	}
	place, ok := s.places[recipe(api.Pub, "", other)]
	return follows(s.known, other) || ok && s.known[place]
}
