package words_test

import (
	"math"
	"strings"
	"testing"

	"lathe/api"
	"lathe/words"
)

// In the order of their numbers.
const inOrder = "add sub mul udiv sdiv urem srem and or xor shl lshr ashr eq ne ult ule slt sle zext sext trunc select freeze phi alloca load store gep call br brif ret halt"

func TestEachWord(t *testing.T) {
	all := strings.Fields(inOrder)
	if len(all) != api.Halt {
		t.Fatal("so many words:", len(all))
	}
	for i, word := range all {
		if op := i + 1; words.Of(op) != word || words.Op(word) != op {
			t.Error(op, words.Of(op), word, words.Op(word))
		}
	}
}

func TestNoWord(t *testing.T) {
	for _, op := range []int{math.MinInt, -1, 0, api.Halt + 1, 256 + api.Add, math.MaxInt} {
		if words.Of(op) != "" {
			t.Error(op, words.Of(op))
		}
	}
	for _, word := range []string{"", "ad", "adds", "Add", " add", "i8", "end", "nsw", "void"} {
		if words.Op(word) != 0 {
			t.Error(word, words.Op(word))
		}
	}
}
