package compile

import "sloth/api"

// list is instructions, one behind the other.
type list struct{ code []api.Instr }

// lay puts an instruction behind the others, and tells its number.
func (l *list) lay(x api.Instr) int {
	l.code = append(l.code, x)
	return len(l.code) - 1
}

// lead lets a jump or a test lead to what will be laid next.
func (l *list) lead(from int) {
	x := &l.code[from]
	if x.Op == api.OpJump {
		x.A = len(l.code)
	} else {
		x.B = len(l.code)
	}
}
