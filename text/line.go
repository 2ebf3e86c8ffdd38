package text

import (
	"slices"
	"strconv"
	"strings"

	"factotum/api"
	"factotum/code"
)

const (
	digits    = "0123456789abcdef"
	quote     = "'"
	mostWords = 4 // words of a line: a name, and A, B, C
)

// words is a line's words, and of too many one too many: a line may be as long as it likes, and no more of it is needed.
func words(line string) []string {
	var l []string
	for len(l) <= mostWords {
		line = strings.TrimLeft(line, " ")
		if line == "" {
			break
		}
		word, rest, _ := strings.Cut(line, " ")
		l = append(l, word)
		line = rest
	}
	return l
}

// spell is the words of an instruction that may be.
func spell(i api.Inst) []string {
	l := []string{Name(i.Op)}
	n, _ := code.Operands(i.Op)
	for k, o := range [...]int{i.A, i.B, i.C} {
		if k < n {
			l = append(l, strconv.Itoa(o))
		}
	}
	if i.Op == api.Const {
		l = append(l, spellValue(i.V))
	}
	return l
}

// spellValue is the word of a value that may be.
func spellValue(v api.Value) string {
	if v.Kind == api.Int {
		return strconv.FormatInt(v.N, 10)
	}
	b := []byte(quote)
	for k := range len(v.S) {
		b = append(b, digits[v.S[k]>>4], digits[v.S[k]&15])
	}
	return string(b)
}

// inst is the instruction whose words these are, if they are one's; there is at least one.
func inst(words []string) (api.Inst, bool) {
	op := opOf(words[0])
	if len(words) != size(op) {
		return api.Inst{}, false
	}
	n, _ := code.Operands(op)
	var o [3]int
	for k := range n {
		o[k] = int(numberOf(words[1+k]))
	}
	i := api.Inst{Op: op, A: o[0], B: o[1], C: o[2]}
	if op == api.Const {
		i.V = valueOf(words[1+n])
	}
	if !isSpelt(i, words) {
		return api.Inst{}, false
	}
	return i, true
}

// isSpelt says whether an instruction may be, and has these words. As there is no other way to spell it, readings need not tell what is wrong: what they make of wrong words is spelt otherwise.
func isSpelt(i api.Inst, words []string) bool {
	_, e := code.Write([]api.Inst{i})
	return e == api.OK && slices.Equal(words, spell(i))
}

// opOf is the Op of that name; 0: there is none.
func opOf(name string) int {
	for op, n := range names {
		if n == name {
			return op
		}
	}
	return 0
}

// size is how many words an Op's line has; 0: there is no such Op.
func size(op int) int {
	n, there := code.Operands(op)
	switch {
	case !there:
		return 0
	case op == api.Const:
		return 1 + n + 1
	}
	return 1 + n
}

// valueOf is that of a word; of a wrong word any one.
func valueOf(word string) api.Value {
	if pairs, is := strings.CutPrefix(word, quote); is {
		return api.Value{Kind: api.Text, S: bytesOf(pairs)}
	}
	return api.Value{Kind: api.Int, N: numberOf(word)}
}

// numberOf is that of a word; of a wrong word any one.
func numberOf(word string) int64 {
	n, _ := strconv.ParseInt(word, 10, 64)
	return n
}

// bytesOf is what pairs of digits are; of wrong ones any bytes, and of too many just one byte too many.
func bytesOf(pairs string) string {
	var b []byte
	for k := 0; k+1 < len(pairs) && len(b) <= api.MaxText; k += 2 {
		high, low := strings.IndexByte(digits, pairs[k]), strings.IndexByte(digits, pairs[k+1])
		b = append(b, byte(high<<4|low))
	}
	return string(b)
}
