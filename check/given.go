package check

import (
	"dawdler/api"
	"dawdler/scheme"
)

// arrow is the Name of functions, of two.
const arrow = "->"

// row is a name that is given, and its type.
type row struct {
	name string
	is   api.Type
}

// given are all of them, in their order.
func given() [17]row {
	a, b, unit := hole(0), hole(1), named("Unit")
	return [17]row{
		{"True", named("Bool")},
		{"False", named("Bool")},
		{"Unit", unit},
		{"returnIO", function(a, io(a))},
		{"bindIO", function(io(a), function(a, io(b)), io(b))},
		{"print", function(named("Int"), io(unit))},
		{"forkIO", function(io(a), io(unit))},
		{"atomically", function(stm(a), io(a))},
		{"returnSTM", function(a, stm(a))},
		{"bindSTM", function(stm(a), function(a, stm(b)), stm(b))},
		{"newTVar", function(a, stm(variable(a)))},
		{"readTVar", function(variable(a), stm(a))},
		{"writeTVar", function(variable(a), a, stm(unit))},
		{"retry", stm(a)},
		{"orElse", function(stm(a), stm(a), stm(a))},
		{"throwSTM", function(named("Int"), stm(a))},
		{"catchSTM", function(stm(a), function(named("Int"), stm(a)), stm(a))},
	}
}

func hole(n int) api.Type { return api.Type{N: n} }

func named(name string, of ...api.Type) api.Type { return api.Type{Name: name, Args: of} }

func io(a api.Type) api.Type { return named("IO", a) }

func stm(a api.Type) api.Type { return named("STM", a) }

func variable(a api.Type) api.Type { return named("TVar", a) }

// function is one of each type but the last one, one behind the other, to that.
func function(first api.Type, behind ...api.Type) api.Type {
	if len(behind) == 0 {
		return first
	}
	return named(arrow, first, function(behind[0], behind[1:]...))
}

// Given is what is assumed of all programs.
func Given() []api.Assume {
	var l []api.Assume
	for _, r := range given() {
		l = append(l, forAll(r.name, r.is))
	}
	return l
}

// forAll assumes a name to be a type that may be, for all its holes, in memory of its own.
func forAll(name string, is api.Type) api.Assume {
	all, _ := scheme.Close(is)
	return api.Assume{Name: name, Is: all}
}
