package expr

import "spinet/api"

// either stands for a rule's kind where any will do, but one for all.
const either = 0

// rule is how many a token takes, of which kind, and which kind it gives.
type rule struct{ count, kind, gives int }

// ruleOf is the rule of a postfix's token, by its Kind.
func ruleOf(kind int) rule {
	switch kind {
	case api.True, api.False:
		return rule{0, either, api.Truth}
	case api.Add, api.Sub, api.Mul, api.Div, api.Mod:
		return rule{2, api.Int, api.Int}
	case api.Neg:
		return rule{1, api.Int, api.Int}
	case api.Lt, api.Le:
		return rule{2, api.Int, api.Truth}
	case api.Eq, api.Ne:
		return rule{2, either, api.Truth}
	case api.And, api.Or:
		return rule{2, api.Truth, api.Truth}
	case api.Not:
		return rule{1, api.Truth, api.Truth}
	}
	return rule{0, either, api.Int} // Num, Var
}

// takes tells whether these are of the kind that the rule asks for.
func (r rule) takes(kinds []int) bool {
	for _, k := range kinds {
		if r.kind == either {
			r.kind = k
		}
		if k != r.kind {
			return false
		}
	}
	return true
}
