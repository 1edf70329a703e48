package show

import (
	"strconv"
	"strings"

	"refinery/ir"
)

// text is what is put to.
type text struct {
	strings.Builder
}

// put: texts as they are, numbers as they are read; nothing else is put here.
func (t *text) put(parts ...any) {
	for _, part := range parts {
		switch x := part.(type) {
		case string:
			t.WriteString(x)
		case int:
			t.WriteString(strconv.Itoa(x))
		case int64:
			t.WriteString(strconv.FormatInt(x, 10))
		}
	}
}

func (t *text) block(b ir.Block) {
	t.put("@", b.Label, ":\n")
	for _, f := range b.Phis {
		t.put("  ")
		t.phi(f)
		t.put("\n")
	}
	for _, x := range b.Instrs {
		t.put("  ")
		t.instr(x)
		t.put("\n")
	}
	t.put("  ")
	t.last(b.Last)
	t.put("\n")
}

// Blanks stand ahead of what comes, not behind what was, so that none ends a line: a phi may have no entry.
func (t *text) phi(f ir.Phi) {
	t.put("%", f.Dst, " = phi")
	// Of a phi that may not be, the lists' lengths may differ: what is in both is put.
	for i := range min(len(f.From), len(f.Args)) {
		if i > 0 {
			t.put(",")
		}
		t.put(" %", f.Args[i], " @", f.From[i])
	}
}

func (t *text) instr(x ir.Instr) {
	if r, ok := x.Sets(); ok {
		t.put("%", r, " = ")
	}
	switch x.Kind {
	case ir.Const:
		t.put(x.N)
	case ir.Copy:
		t.put("%", x.A)
	case ir.Do:
		t.put(x.Op.Name(), " %", x.A, ", %", x.B)
	case ir.In:
		t.put("in")
	case ir.Out:
		t.put("out %", x.A)
	case ir.Load:
		t.put("load $", x.Slot)
	case ir.Store:
		t.put("store $", x.Slot, ", %", x.A)
	case ir.Get:
		t.put("get %", x.A)
	case ir.Put:
		t.put("put %", x.A, ", %", x.B)
	}
}

func (t *text) last(l ir.Last) {
	switch l.End {
	case ir.Jump:
		t.put("jump @", l.Yes)
	case ir.Branch:
		t.put("br %", l.A, ", @", l.Yes, ", @", l.No)
	case ir.Return:
		t.put("ret %", l.A)
	case ir.Trap:
		t.put("trap")
	}
}
