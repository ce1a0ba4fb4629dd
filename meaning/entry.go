package meaning

import "sloth/api"

// isEntry tells whether a run may begin with a definition.
func isEntry(datas []api.Data, d *api.Def) bool {
	if len(d.Params) > 0 {
		return false
	}
	told := d.Type
	if told.Kind == api.TyFun {
		if !isInput(told.Args[0]) {
			return false
		}
		told = told.Args[1]
	}
	return isFirstOrder(datas, told)
}

// isInput tells whether a type is that of a list of numbers.
func isInput(t api.Type) bool {
	return t.Kind == api.TyData && t.Name == "List" && t.Args[0].Kind == api.TyInt
}

// isFirstOrder looks for functions in a type and in the fields of all data types that it reaches; there may be a long way from one to the next, so what is still to be looked at stands in a list. (No field of a built-in type has a function of its own.)
func isFirstOrder(datas []api.Data, t api.Type) bool {
	cons := map[string][]api.Con{}
	for _, d := range datas {
		cons[d.Name] = d.Cons
	}
	left := []api.Type{t}
	for len(left) > 0 {
		last := len(left) - 1
		t, left = left[last], left[:last]
		if t.Kind == api.TyFun {
			return false
		}
		left = append(left, t.Args...)
		for _, c := range cons[t.Name] {
			left = append(left, c.Fields...)
		}
		delete(cons, t.Name)
	}
	return true
}
