package refine_test

import "lathe/api"

// The chapter's words once more, as they are told, with the numbers that the document has for kinds and statuses.

func valueByWords(v, by api.Val) bool {
	isPoison := v.Kind == 0
	isAny := v.Kind == 3 && by.Kind != 0
	return isPoison || isAny || v == by
}

func byteByWords(b, by api.Byte) bool {
	isPoison := b.Kind == 0
	isAny := b.Kind == 3 && (by.Kind == 3 || by.Kind == 1)
	return isPoison || isAny || b == by
}

func varsByWords(vars, by [][]api.Byte) bool {
	if len(vars) != len(by) {
		return false
	}
	for n, list := range vars {
		if len(list) != len(by[n]) {
			return false
		}
		for i, b := range list {
			if !byteByWords(b, by[n][i]) {
				return false
			}
		}
	}
	return true
}

func eventByWords(e, by api.Event) bool {
	if e.Extern != by.Extern || len(e.Args) != len(by.Args) {
		return false
	}
	for i, v := range e.Args {
		if !valueByWords(v, by.Args[i]) {
			return false
		}
	}
	return varsByWords(e.Vars, by.Vars)
}

func togetherByWords(o, p api.Outcome) bool {
	for i := 0; i < len(o.Events) && i < len(p.Events); i++ {
		if !eventByWords(o.Events[i], p.Events[i]) {
			return false
		}
	}
	return true
}

func refinesByWords(o, p api.Outcome) bool {
	if o.Status == 4 {
		return true
	}
	if !togetherByWords(o, p) || p.Status == 4 {
		return false
	}
	switch o.Status {
	case 0:
		isLike := p.Status == 0 && len(p.Events) == len(o.Events) && valueByWords(o.Ret, p.Ret) && varsByWords(o.Vars, p.Vars)
		isUnderWay := (p.Status == 2 || p.Status == 5) && len(p.Events) <= len(o.Events)
		return isLike || isUnderWay
	case 1, 3, 5:
		return p.Status == 2 || p.Status == 5 || len(p.Events) >= len(o.Events)
	}
	return true
}
