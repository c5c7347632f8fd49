package drama

import "cabal/api"

// verb is an act that lacks what a statement says: needs tells what that is.
type verb struct {
	api.Act
	needs int
}

// What verbs need.
const (
	nothing = iota
	people
	words
	spot // a relay, and a number
	length
)

func verbs() map[string]verb {
	step := func(kind, needs int) verb {
		return verb{api.Act{Kind: api.ActStep, In: api.Input{Kind: kind}}, needs}
	}
	return map[string]verb{
		"create": step(api.InCreate, people),
		"add":    step(api.InAdd, people),
		"remove": step(api.InRemove, people),
		"update": step(api.InUpdate, nothing),
		"say":    step(api.InSay, words),
		"tick":   step(api.InTick, nothing),
		"fetch":  {api.Act{Kind: api.ActFetch}, spot},
		"drop":   {api.Act{Kind: api.ActDrop}, spot},
		"double": {api.Act{Kind: api.ActDouble}, spot},
		"move":   {api.Act{Kind: api.ActMove}, spot},
		"fuse":   {api.Act{Kind: api.ActFuse}, length},
		"crash":  {api.Act{Kind: api.ActCrash}, nothing},
		"start":  {api.Act{Kind: api.ActStart}, nothing},
		"leak":   {api.Act{Kind: api.ActLeak}, nothing},
	}
}

// fill takes what the verb needs from the values behind the member's.
func (v *verb) fill(values []int64, text string) {
	switch v.needs {
	case people:
		for _, who := range values {
			v.In.Who = append(v.In.Who, int(who))
		}
	case words:
		v.In.Text = text
	case spot:
		v.Relay, v.N = number(values, 0), number(values, 1)
	case length:
		v.N = number(values, 0)
	}
}

// number is a value, or 0 if it is missing.
func number(values []int64, at int) int {
	if at >= len(values) {
		return 0
	}
	return int(values[at])
}
