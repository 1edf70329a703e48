package ir

// Reads: the register that an end reads; false: none, and A is answered as it stands.
func (l Last) Reads() (int, bool) {
	return l.A, l.End == Branch || l.End == Return
}

// Labels: where it may go on: yes ahead of no; one, if they are the same.
func (l Last) Labels() []int {
	switch {
	case l.End == Branch && l.Yes != l.No:
		return []int{l.Yes, l.No}
	case l.End == Branch || l.End == Jump:
		return []int{l.Yes}
	}
	return nil
}

// Only: of an end what it has.
func (l Last) Only() Last {
	switch l.End {
	case Jump:
		return Last{End: Jump, Yes: l.Yes}
	case Branch:
		return l
	case Return:
		return Last{End: Return, A: l.A}
	}
	return Last{End: l.End}
}
