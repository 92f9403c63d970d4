package check

import "withe/api"

// names are names, each once, in the order in which they came.
type names struct {
	list  []string
	known map[string]struct{}
}

func (n *names) has(name string) bool {
	_, ok := n.known[name]
	return ok
}

func (n *names) add(name string) {
	if n.has(name) {
		return
	}
	if n.known == nil {
		n.known = map[string]struct{}{}
	}
	n.known[name] = struct{}{}
	n.list = append(n.list, name)
}

// addSet adds the registers that the statements set, those within others too.
func (n *names) addSet(l []api.Stmt) {
	for _, s := range l {
		if sets(s.Kind) {
			n.add(s.Reg)
		}
		n.addSet(s.Then)
		n.addSet(s.Else)
	}
}

// sets tells whether statements of that Kind set a register.
func sets(kind int) bool {
	switch kind {
	case api.Set, api.Load, api.Add, api.Cas:
		return true
	}
	return false
}
