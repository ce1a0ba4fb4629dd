package scope

import "sloth/api"

// arrange tells the modules in an order in which each comes behind those that it imports.
func arrange(modules []api.Module) ([]api.Module, *api.Fault) {
	numbers, fault := number(modules)
	if fault != nil {
		return nil, fault
	}
	imports, fault := link(modules, numbers)
	if fault != nil {
		return nil, fault
	}
	for i, m := range modules {
		if comesBack(imports, i) {
			return nil, about(m, api.ErrScopeCycle, m.Name)
		}
	}
	ordered := make([]api.Module, 0, len(modules))
	for _, i := range order(imports) {
		ordered = append(ordered, modules[i])
	}
	return ordered, nil
}

// about makes a fault of a module.
func about(m api.Module, code api.Errno, name string) *api.Fault {
	return &api.Fault{Code: code, Text: m.Text, At: -1, Name: name}
}

// number tells which module has a name.
func number(modules []api.Module) (map[string]int, *api.Fault) {
	numbers := make(map[string]int, len(modules))
	for i, m := range modules {
		if _, ok := numbers[m.Name]; ok {
			return nil, about(m, api.ErrScopeModule, m.Name)
		}
		numbers[m.Name] = i
	}
	return numbers, nil
}

// link tells of each module which ones it imports.
func link(modules []api.Module, numbers map[string]int) ([][]int, *api.Fault) {
	imports := make([][]int, len(modules))
	for i, m := range modules {
		seen := make(map[int]int, len(m.Imports))
		for _, imported := range m.Imports {
			to, ok := numbers[imported.Module]
			if !ok || to == i {
				return nil, about(m, api.ErrScopeModule, imported.Module)
			}
			if seen[to]++; seen[to] > 1 {
				return nil, about(m, api.ErrScopeTwice, imported.Module)
			}
			imports[i] = append(imports[i], to)
		}
	}
	return imports, nil
}

// comesBack tells whether a module imports itself by way of others.
func comesBack(imports [][]int, start int) bool {
	reached := make([]bool, len(imports))
	wait := []int{start}
	for len(wait) > 0 {
		at := wait[len(wait)-1]
		wait = wait[:len(wait)-1]
		for _, to := range imports[at] {
			if !reached[to] {
				reached[to] = true
				wait = append(wait, to)
			}
		}
	}
	return reached[start]
}

// order places always the first module whose imports are all placed. There is one, as long as there are no rings.
func order(imports [][]int) []int {
	placed := make([]bool, len(imports))
	l := make([]int, 0, len(imports))
	for range imports {
		next := 0
		for placed[next] || !allPlaced(placed, imports[next]) {
			next++
		}
		placed[next] = true
		l = append(l, next)
	}
	return l
}

func allPlaced(placed []bool, imports []int) bool {
	for _, i := range imports {
		if !placed[i] {
			return false
		}
	}
	return true
}
