// Package ops is the instructions: see DOC.md, chapter 1.
package ops

// Instructions.
const (
	Push  = 1
	Pop   = 2
	Copy  = 3
	Swap  = 4
	Load  = 5
	Store = 6
	Arg   = 7
	Self  = 8
	Add   = 9
	Sub   = 10
	Mul   = 11
	Div   = 12
	Mod   = 13
	Neg   = 14
	Eq    = 15
	Less  = 16
	And   = 17
	Or    = 18
	Not   = 19
	Jump  = 20
	Zero  = 21
	Send  = 22
	Arm   = 23
	Calm  = 24
	End   = 25
)

// Operands.
const (
	None   = 0
	Number = 1
	Reg    = 2
	Param  = 3
	Target = 4
	Kind   = 5
)

// traits is what is fixed of one instruction.
type traits struct {
	name    string
	pops    int
	puts    int
	operand int
}

// table has its rows by number; row 0 is empty, as no instruction is 0.
var table = [End + 1]traits{
	Push:  {"push", 0, 1, Number},
	Pop:   {"pop", 1, 0, None},
	Copy:  {"copy", 1, 2, None},
	Swap:  {"swap", 2, 2, None},
	Load:  {"load", 0, 1, Reg},
	Store: {"store", 1, 0, Reg},
	Arg:   {"arg", 0, 1, Param},
	Self:  {"self", 0, 1, None},
	Add:   {"add", 2, 1, None},
	Sub:   {"sub", 2, 1, None},
	Mul:   {"mul", 2, 1, None},
	Div:   {"div", 2, 1, None},
	Mod:   {"mod", 2, 1, None},
	Neg:   {"neg", 1, 1, None},
	Eq:    {"eq", 2, 1, None},
	Less:  {"less", 2, 1, None},
	And:   {"and", 2, 1, None},
	Or:    {"or", 2, 1, None},
	Not:   {"not", 1, 1, None},
	Jump:  {"jump", 0, 0, Target},
	Zero:  {"zero", 1, 0, Target},
	Send:  {"send", 1, 0, Kind}, // the arguments that it takes besides hang on the handler it names
	Arm:   {"arm", 0, 0, None},
	Calm:  {"calm", 0, 0, None},
	End:   {"end", 0, 0, None},
}

// traitsOf is an op's row; of a number that is no op, the empty one.
func traitsOf(op int) traits {
	if !Valid(op) {
		return traits{}
	}
	return table[op]
}

// Valid tells whether there is such a one.
func Valid(op int) bool { return op >= Push && op <= End }

// Name is an op's; empty of what is none.
func Name(op int) string { return traitsOf(op).name }

// Find is the op of a name.
func Find(name string) (int, bool) {
	for op := Push; op <= End; op++ {
		if table[op].name == name {
			return op, true
		}
	}
	return 0, false
}

// Pops is how many numbers it takes from the stack; of Send, without its arguments.
func Pops(op int) int { return traitsOf(op).pops }

// Puts is how many it puts there.
func Puts(op int) int { return traitsOf(op).puts }

// Operand is what its A is.
func Operand(op int) int { return traitsOf(op).operand }
