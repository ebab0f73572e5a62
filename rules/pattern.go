package rules

// pattern reads branches with | between them. It ends ahead of the first byte that cannot
// go on with it: whether that one may stand there is for the caller to tell.
func (r *reader) pattern() (Part, bool) {
	whole, ok := r.branch()
	for ok && r.take('|') {
		branch, read := r.branch()
		whole = either(whole, branch)
		ok = read
	}
	return whole, ok
}

func (r *reader) branch() (Part, bool) {
	whole, ok := r.piece()
	for ok && beginsAtom(r.peek()) {
		piece, read := r.piece()
		whole = r.inTurn(whole, piece)
		ok = read
	}
	return whole, ok
}

func (r *reader) piece() (Part, bool) {
	part, ok := r.atom()
	for ok {
		sign := r.peek()
		if sign != '*' && sign != '+' && sign != '?' {
			break
		}
		r.at++
		part = r.repeated(part, sign)
	}
	return part, ok
}

// beginsAtom tells whether an atom can begin with b.
func beginsAtom(b int) bool {
	switch b {
	case ')', ']', '*', '+', '?', '|', ' ', '\n', end:
		return false
	}
	return true
}

func (r *reader) atom() (Part, bool) {
	b := r.peek()
	if !beginsAtom(b) {
		return Part{}, false
	}
	if b == '\\' {
		return r.escaped()
	}
	r.at++
	switch b {
	case '(':
		return r.group()
	case '[':
		return r.class()
	case '.':
		return r.one(allBut(only('\n'))), true
	}
	return r.one(only(b)), true
}

// group reads what is behind a (.
func (r *reader) group() (Part, bool) {
	part, ok := r.pattern()
	if !ok || !r.take(')') {
		return Part{}, false
	}
	return part, true
}

func (r *reader) escaped() (Part, bool) {
	b, ok := r.escape()
	if !ok {
		return Part{}, false
	}
	return r.one(only(b)), true
}

// escape reads a \ and what is behind it, and gives the byte for which they stand.
func (r *reader) escape() (int, bool) {
	if !r.take('\\') {
		return 0, false
	}
	b := r.peek()
	switch b {
	case '(', ')', '[', ']', '*', '+', '?', '|', '.', '\\', '-', '^':
	case 'n':
		b = '\n'
	case 's':
		b = ' '
	default:
		return 0, false
	}
	r.at++
	return b, true
}

// class reads what is behind a [.
func (r *reader) class() (Part, bool) {
	takes := Bytes{}
	other := r.take('^')
	for {
		low, high, ok := r.item()
		if !ok {
			return Part{}, false
		}
		takes = with(takes, low, high)
		if r.take(']') {
			break
		}
	}
	if other {
		takes = allBut(takes)
	}
	return r.one(takes), true
}

// item reads a sign or a range, and gives its lowest and its highest byte.
func (r *reader) item() (int, int, bool) {
	low, ok := r.sign()
	if !ok {
		return 0, 0, false
	}
	if !r.take('-') {
		return low, low, true
	}
	high, ok := r.sign()
	if ok && high < low {
		r.down = true
	}
	return low, high, ok
}

func (r *reader) sign() (int, bool) {
	b := r.peek()
	switch b {
	case ']', '-', ' ', '\n', end:
		return 0, false
	case '\\':
		return r.escape()
	}
	r.at++
	return b, true
}

// only gives the byte b alone.
func only(b int) Bytes {
	return with(Bytes{}, b, b)
}

// with gives bytes and those from low to high.
func with(bytes Bytes, low int, high int) Bytes {
	for b := range bytes {
		bytes[b] = bytes[b] || b >= low && b <= high
	}
	return bytes
}

func allBut(bytes Bytes) Bytes {
	for b := range bytes {
		bytes[b] = !bytes[b]
	}
	return bytes
}
