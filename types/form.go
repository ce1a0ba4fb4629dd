package types

import (
	"strings"

	"sloth/api"
)

// form is what a node of a type can be.
type form int

const (
	noForm form = iota // it may not be
	number
	variable
	function
	data
)

// formOf tells what a node is by its own fields, whatever its Args are.
func formOf(t api.Type) form {
	switch {
	case t.Kind == api.TyInt && t.Name == "" && len(t.Args) == 0:
		return number
	case t.Kind == api.TyVar && isVariable(t.Name) && len(t.Args) == 0:
		return variable
	case t.Kind == api.TyFun && t.Name == "" && len(t.Args) == 2:
		return function
	case t.Kind == api.TyData && isData(t.Name) && len(t.Args) <= api.MaxParams:
		return data
	}
	return noForm
}

// kind tells the Kind of a node that may be.
func (f form) kind() int {
	return [...]int{number: api.TyInt, variable: api.TyVar, function: api.TyFun, data: api.TyData}[f]
}

// intName is no data type's name, so that each text is one type's.
const intName = "Int"

func isVariable(name string) bool {
	return len(name) <= api.MaxName && isWord(name, 'a', 'z')
}

func isData(name string) bool {
	if len(name) > api.MaxName || name == intName {
		return false
	}
	module, own, ok := strings.Cut(name, ".")
	return isWord(module, 'A', 'Z') && (!ok || isWord(own, 'A', 'Z'))
}

// isWord tells whether a text begins with a byte of some and goes on as names do.
func isWord(text string, least, most byte) bool {
	if text == "" || text[0] < least || text[0] > most {
		return false
	}
	for i := range len(text) {
		if !isNameSign(text[i]) {
			return false
		}
	}
	return true
}

func isNameSign(b byte) bool {
	return 'a' <= b && b <= 'z' || 'A' <= b && b <= 'Z' || '0' <= b && b <= '9' || b == '_' || b == '\''
}

// wrong tells what is wrong with the first of some types with which something is.
func wrong(l ...api.Type) api.Errno {
	for _, t := range l {
		if code := wrongType(t); code != api.OK {
			return code
		}
	}
	return api.OK
}

// wrongType looks at all nodes, however many there are, since what may not be comes ahead of what is too great.
func wrongType(t api.Type) api.Errno {
	nodes := 0
	for rest := []api.Type{t}; len(rest) > 0; nodes++ {
		last := len(rest) - 1
		node := rest[last]
		if formOf(node) == noForm {
			return api.ErrTypesForm
		}
		rest = append(rest[:last], node.Args...)
	}
	if nodes > api.MaxType {
		return api.ErrBig
	}
	return api.OK
}
