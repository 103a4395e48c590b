package samples

import "lathe/api"

// ends gives each block of a function its end, as yet without an operand. Most go on to the one behind them, and many back too, so that loops lie in each other; none goes on to block 0.
func (r *Maker) ends(f *api.Func, blocks int) {
	f.Blocks = make([]api.Block, blocks)
	for b := range f.Blocks {
		to := r.goesTo(b, blocks)
		in := api.Instr{Reg: -1, To: to}
		switch {
		case len(to) == 2:
			in.Op, in.Args = api.Brif, make([]api.Value, 1)
		case len(to) == 1:
			in.Op = api.Br
		case r.In(2):
			in.Op = api.Halt
		default:
			in.Op, in.Type = api.Ret, f.Ret
			if f.Ret != api.Void {
				in.Args = make([]api.Value, 1)
			}
		}
		f.Blocks[b].Code = []api.Instr{in}
	}
}

func (r *Maker) goesTo(b, blocks int) []int {
	last := blocks - 1
	if last == 0 || b == last && r.In(85) {
		return nil
	}
	behind, back := min(b+1, last), 1+r.Below(max(b, 1))
	ahead, anywhere := min(b+1+r.Below(3), last), 1+r.Below(last)
	switch r.Below(20) {
	case 0, 1, 2, 3, 4, 5:
		return []int{behind}
	case 6, 7, 8, 9:
		// Back mostly where what is asked is told 1: behind a script's end all is told 0.
		return OneOf(r, []int{back, behind}, []int{back, behind}, []int{back, behind}, []int{behind, back})
	case 10, 11, 12, 13, 14, 15:
		return OneOf(r, []int{behind, ahead}, []int{ahead, behind})
	case 16, 17:
		return []int{behind, anywhere}
	case 18:
		return []int{ahead}
	}
	return OneOf(r, nil, []int{anywhere}, []int{back})
}
