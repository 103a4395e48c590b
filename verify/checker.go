package verify

import (
	"slices"

	"lathe/api"
	"lathe/dom"
	"lathe/graph"
	"lathe/ir"
)

// checker checks one function, which has this number in its module.
type checker struct {
	module api.Module
	f      api.Func
	number int
}

// check asks one thing of the whole function behind the other; each builds on those ahead of it.
func (c checker) check() {
	c.limits()
	c.ends()
	c.each(c.form)
	makers := c.makers()
	c.operands()
	c.phis()
	c.uses(makers)
}

func (c checker) each(show func(at api.Place, in api.Instr)) {
	each(c.number, c.f, show)
}

func (c checker) limits() {
	isFault := !isFrom(1, api.MaxBlocks, len(c.f.Blocks)) || ir.Size(c.f) > api.MaxCode
	refuse(isFault, api.ErrLimit, api.Place{Func: c.number})
}

// ends asks each block whether it ends, only at its end, and where it goes on to.
func (c checker) ends() {
	for b, block := range c.f.Blocks {
		at := api.Place{Func: c.number, Block: b}
		last := len(block.Code) - 1
		refuse(last < 0 || !ir.Ends(block.Code[last].Op), api.ErrEnd, at)
		for i, in := range block.Code[:last] {
			at.At = i
			refuse(ir.Ends(in.Op), api.ErrEnd, at)
		}
		at.At = last
		refuse(slices.ContainsFunc(block.Code[last].To, c.isNoTarget), api.ErrBlock, at)
	}
}

func (c checker) isNoTarget(to int) bool {
	return to <= 0 || to >= len(c.f.Blocks)
}

// makers asks each register that is made, and answers by which instruction it is.
func (c checker) makers() map[int]api.Place {
	makers := map[int]api.Place{}
	c.each(func(at api.Place, in api.Instr) {
		if ir.Result(in) == api.Void {
			return
		}
		refuse(!isFrom(len(c.f.Params), api.MaxReg, in.Reg), api.ErrReg, at)
		_, again := makers[in.Reg]
		refuse(again, api.ErrTwice, at)
		makers[in.Reg] = at
	})
	return makers
}

// phis asks each phi where it stands, and from where its operands come.
func (c checker) phis() {
	preds := graph.Preds(c.f)
	c.each(func(at api.Place, in api.Instr) {
		if in.Op != api.Phi {
			return
		}
		// If the one ahead is a phi, that one was asked for what stands ahead of both.
		isBehind := at.At > 0 && c.f.Blocks[at.Block].Code[at.At-1].Op != api.Phi
		refuse(at.Block == 0 || isBehind || !slices.Equal(in.To, preds[at.Block]), api.ErrPhi, at)
	})
}

// uses asks each operand whether what makes it stands ahead of where it is needed.
func (c checker) uses(makers map[int]api.Place) {
	// Once for all operands: each call of Dominates would go over the function anew.
	idom, reach := dom.Idom(c.f), graph.Reach(c.f)
	c.each(func(at api.Place, in api.Instr) {
		for i, v := range in.Args {
			if v.Kind != api.Reg || v.N < len(c.f.Params) {
				continue
			}
			need := c.needed(at, in, i)
			// From a reachable block only reachable ones are come to, so the phi's own block needn't be asked.
			refuse(reach[need.Block] && !standsAhead(idom, makers[v.N], need), api.ErrDom, at)
		}
	})
}

// needed is the place where the operand i must be made by: of a phi behind the last instruction of the block that it comes from.
func (c checker) needed(at api.Place, in api.Instr, i int) api.Place {
	if in.Op != api.Phi {
		return at
	}
	from := in.To[i]
	return api.Place{Block: from, At: len(c.f.Blocks[from].Code)}
}

// standsAhead tells whether the maker's place is gone through on every way to the other, whose block is reachable.
func standsAhead(idom []int, maker, need api.Place) bool {
	if maker.Block == need.Block {
		return maker.At < need.At
	}
	b := need.Block
	for b != -1 && b != maker.Block {
		b = idom[b]
	}
	return b == maker.Block
}
