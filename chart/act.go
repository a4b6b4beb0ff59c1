package chart

import (
	"spinet/api"
	"spinet/expr"
	"spinet/parse"
)

func actsMayBe(l []api.Act, vars int) bool {
	if len(l) > api.MaxActs {
		return false
	}
	for _, a := range l {
		if !actMayBe(a, vars) {
			return false
		}
	}
	return true
}

func actMayBe(a api.Act, vars int) bool {
	switch a.Kind {
	case api.Assign:
		return isFrom(a.N, 0, vars-1) && a.M == 0 && hasType(a.Expr, vars, api.Int)
	case api.Raise, api.Cancel:
		return isFrom(a.N, 1, api.MaxEvent) && a.M == 0 && a.Expr == ""
	case api.Send:
		return isFrom(a.N, 1, api.MaxEvent) && isFrom(a.M, 0, api.MaxDelay) && hasType(a.Expr, vars, api.Int)
	case api.Log:
		return a.N == 0 && a.M == 0 && hasType(a.Expr, vars, api.Int)
	}
	return false
}

// hasType tells whether a text parses, and has that type.
func hasType(s string, vars, want int) bool {
	p, err := parse.Parse(s)
	if err != nil {
		return false
	}
	kind, err := expr.Type(p, vars)
	return err == nil && kind == want
}
