package uses

import (
	"lathe/api"
	"lathe/ir"
)

// search goes from what is needed to what that needs.
type search struct {
	needed [][]bool
	// Where each register is made that no needed instruction uses, as far as it was met; so no place comes twice.
	makers map[int][]api.Place
	// What is needed and not followed yet: a list, since one may need another over a very long way.
	todo []api.Place
}

// searchOf keeps who makes what of idle instructions alone, since every other one is needed anyway.
func searchOf(f api.Func) search {
	s := search{makers: map[int][]api.Place{}}
	for b, block := range f.Blocks {
		s.needed = append(s.needed, make([]bool, len(block.Code)))
		for i, in := range block.Code {
			if ir.Idle(in.Op) && ir.Result(in) != api.Void {
				s.makers[in.Reg] = append(s.makers[in.Reg], api.Place{Block: b, At: i})
			}
		}
	}
	return s
}

func (s *search) need(p api.Place) {
	s.needed[p.Block][p.At] = true
	s.todo = append(s.todo, p)
}

// follow needs all that make a register among the operands.
func (s *search) follow(args []api.Value) {
	for _, v := range args {
		if v.Kind != api.Reg {
			continue
		}
		for _, p := range s.makers[v.N] {
			s.need(p)
		}
		delete(s.makers, v.N)
	}
}
