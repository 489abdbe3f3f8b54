package code

import (
	"dawdler/api"
	"dawdler/num"
)

// Check tells whether operations may be.
func Check(c api.Code) bool {
	sound := 0
look:
	for at, op := range c.Ops {
		if !formed(op) || op.Kind == api.OGlobal && op.N >= len(c.Defs) {
			break look
		}
		for _, kid := range op.Kids {
			if !ahead(kid, at) {
				break look
			}
		}
		for _, way := range op.Ways {
			if !ahead(way.To, at) {
				break look
			}
		}
		sound++
	}
	for _, def := range c.Defs {
		if !ahead(def, len(c.Ops)) {
			return false
		}
	}
	return sound == len(c.Ops)
}

// formed tells whether an operation is of some kind, as far as that hangs on no other one.
func formed(op api.Op) bool {
	for _, place := range op.Caps {
		if place < 0 {
			return false
		}
	}
	return len(op.Kids) == kids(op.Kind) && op.N >= 0 && (op.Kind != api.OPrim || prim(op.Name))
}

// kids is how many Kids an operation of a kind has; below 0: there is no such kind.
func kids(kind int) int {
	switch kind {
	case api.OInt, api.OLocal, api.OGlobal, api.OCon:
		return 0
	case api.OLam, api.OCase, api.ODelay:
		return 1
	case api.OApp, api.OLet, api.OPrim:
		return 2
	}
	return -1
}

// prim tells whether numbers have such an operation, or a comparison.
func prim(name string) bool {
	operation, comparison := num.Is(name)
	return operation || comparison
}

// ahead tells whether a place is one ahead of another one.
func ahead(at, of int) bool { return at >= 0 && at < of }
