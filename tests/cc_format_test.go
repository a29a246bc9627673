package tests

import (
	"bytes"
	"hash/fnv"
	"math/rand"
	"strings"
	"sync"
	"sync/atomic"
	"testing"

	"loop.example/s01681/impl"
)

// format asks Format twice, and sees that the source is as it was, that the answers are the same in new memory, that they
// are those of Parse and Print, and that the text, when it is not too great, is its own form.
func format(t *testing.T, text string) (string, told) {
	t.Helper()
	source := roomy([]byte(text))
	form, code, line, col := impl.Format(source)
	again, codeAgain, lineAgain, colAgain := impl.Format(source)
	of, ofAgain := told{code, line, col}, told{codeAgain, lineAgain, colAgain}
	if !bytes.Equal(source[:cap(source)], roomy([]byte(text))[:cap(source)]) {
		t.Errorf("%.300q: Format wrote into the source", text)
	}
	if of != ofAgain || !bytes.Equal(form, again) || touch(form, again) || touch(form, source) {
		t.Errorf("%.300q: once %v, once %v", text, of, ofAgain)
	}
	tree, code, line, col := impl.Parse([]byte(text))
	want, _ := impl.Print(tree)
	if (of != told{code, line, col}) || !bytes.Equal(form, want) || code != 0 && len(form) > 0 {
		t.Errorf("%.300q: %v, %.300q, not %v, %.300q", text, of, form, told{code, line, col}, want)
	}
	if code != 0 {
		return "", of
	}
	formed, code, line, col := impl.Format(form)
	switch {
	case len(form) > impl.MaxSource:
		if (told{code, line, col}) != (told{1, 1, 1}) || len(formed) > 0 {
			t.Errorf("%.300q: %d bytes are formatted with %d, %d, %d", text, len(form), code, line, col)
		}
	case code != 0 || !bytes.Equal(form, formed):
		t.Errorf("%.300q:\n%.300s\nis formatted with %d, %d, %d to\n%.300s", text, form, code, line, col, formed)
	}
	return string(form), of
}

// isWrittenAlike sees that Compile and Build give the same for two sources, or have the same code: promise 18. It gives
// whether they give something.
func isWrittenAlike(t *testing.T, a, b string, stack int) bool {
	t.Helper()
	return writtenAlike(t, a, b, stack) == 0
}

// writtenAlike gives the code of Build for both.
func writtenAlike(t *testing.T, a, b string, stack int) int {
	t.Helper()
	aText, aCode, _, _ := impl.Compile([]byte(a), stack)
	bText, bCode, _, _ := impl.Compile([]byte(b), stack)
	if aCode != bCode || !bytes.Equal(aText, bText) {
		t.Errorf("%.1000q and\n%.1000q: %d, %d, or other texts", a, b, aCode, bCode)
	}
	aImage, aCode, _, _ := impl.Build([]byte(a), stack)
	bImage, bCode, _, _ := impl.Build([]byte(b), stack)
	if aCode != bCode || !sameImage(aImage, bImage) {
		t.Errorf("%.1000q and\n%.1000q: %d, %d, or other images", a, b, aCode, bCode)
	}
	return aCode
}

// formed are the sources that formOnce has seen.
var formed sync.Map

// formOnce sees that a source has its form, and for some of them that the two are written alike, and that a right one is
// written, but for its size, and a wrong one is not.
func formOnce(t *testing.T, text string) {
	t.Helper()
	if _, done := formed.LoadOrStore(text, true); done {
		return
	}
	form, of := format(t, text)
	if of.code != 0 || len(form) > impl.MaxSource || sumOf(text)%4 != 0 {
		return
	}
	built := writtenAlike(t, text, form, len(text)*16%(impl.MaxStack+16))
	if _, code, _, _ := impl.Check([]byte(text)); code != built && (code != 0 || built < 33) {
		t.Errorf("%.1000q: Check says %d, Build %d", text, code, built)
	}
}

// sumOf is a number that hangs on a text.
func sumOf(text string) uint32 {
	sum := fnv.New32()
	sum.Write([]byte(text))
	return sum.Sum32()
}

func TestFormsByHand(t *testing.T) {
	t.Parallel()
	for _, c := range []struct{ text, form string }{
		{"", ""}, {" \n/* x */", ""}, {"int a;", "int a ;\n"}, {"int  a , *b[ 3 ] ;", "int a ;\nint * b [ 3 ] ;\n"}, {"char c='\\101';", "char c = 'A' ;\n"}, {"int a=0x10;", "int a = 16 ;\n"}, {"int a=0xffffffff;", "int a = 4294967295u ;\n"}, {"char*s=\"a\\x41\\n\\0\\\"\";", "char * s = \"aA\\n\\000\\\"\" ;\n"}, {"int f();", "int f ( void ) ;\n"}, {"enum E{A,B=2,};", "enum E {\nA , B = 2 }\n;\n"}, {"struct S{int a,b;char c;};", "struct S {\nint a ;\nint b ;\nchar c ;\n}\n;\n"}, {"signed s;unsigned u;short int h;signed char c;", "int s ;\nunsigned int u ;\nshort h ;\nchar c ;\n"},
		{"int a=((1));", "int a = 1 ;\n"}, {"int a=1+2*3;", "int a = 1 + ( 2 * 3 ) ;\n"}, {"int a=(1+2)*3;", "int a = ( 1 + 2 ) * 3 ;\n"}, {"int a=1-2-3;", "int a = ( 1 - 2 ) - 3 ;\n"}, {"int a=1-(2-3);", "int a = 1 - ( 2 - 3 ) ;\n"}, {"int a=- -1;", "int a = - ( - 1 ) ;\n"}, {"int a[2]={1,2,};", "int a [ 2 ] = {\n1 , 2 }\n;\n"}, {"typedef int T;T x;", "typedef int T ;\nT x ;\n"}, {"int(*f)(int,char*);", "int ( * f ) ( int , char * ) ;\n"}, {"int(*(*g)[3])(void);", "int ( * ( * g ) [ 3 ] ) ( void ) ;\n"},
		{"int main(void){for(;;);}", "int main ( void ) {\nfor ( ;\n;\n) ;\n}\n"}, {"int main(void){for(int i=0;i<3;i++)if(i)break;else continue;}", "int main ( void ) {\nfor ( int i = 0 ;\ni < 3 ;\ni ++ ) if ( i ) break ;\nelse continue ;\n}\n"}, {"int main(void){do x:;while(1);}", "int main ( void ) {\ndo x : ;\nwhile ( 1 ) ;\n}\n"}, {"int main(void){return(a)?(b):c;}", "int main ( void ) {\nreturn a ? b : c ;\n}\n"}, {"int main(void){f((a,b),(c));}", "int main ( void ) {\nf ( ( a , b ) , c ) ;\n}\n"}, {"int main(void){a=b=c;(a)++;sizeof(int);sizeof(a);(char)(a);}", "int main ( void ) {\na = ( b = c ) ;\na ++ ;\nsizeof ( int ) ;\nsizeof a ;\n( char ) a ;\n}\n"},
		// What Check does not take is formatted all the same.
		{"int a;int a;int b=x;", "int a ;\nint a ;\nint b = x ;\n"}, {"void v;", "void v ;\n"}, {"int f(void){break;}", "int f ( void ) {\nbreak ;\n}\n"},
	} {
		if form, of := format(t, c.text); form != c.form || of != (told{}) {
			t.Errorf("%q: %v, %q, not %q", c.text, of, form, c.form)
		}
	}
}

// The text that Format gives may be greater than a source may be.
func TestFormsThatAreTooGreat(t *testing.T) {
	t.Parallel()
	text := "char*a[]={" + strings.Repeat("\""+strings.Repeat("\xff", impl.MaxString)+"\",", 90) + "};"
	if form, of := format(t, text+emptyMain); of != (told{}) || len(form) < 4*90*impl.MaxString {
		t.Errorf("%v, %d bytes", of, len(form))
	}
	// Around the bound: a string has as many bytes in the text as in the source, and a blank more behind it.
	for more := -2; more <= 2; more++ {
		begin, sum, end := "int main(void){int aaaaaaaa=0;", "aaaaaaaa+aaaaaaaa;", "}"
		one, _ := format(t, begin+end)
		count := (impl.MaxSource - 20 - len(one)) / len("aaaaaaaa + aaaaaaaa ;\n")
		form, of := format(t, begin+strings.Repeat(sum, count)+end)
		short := impl.MaxSource + more - len(form) - len("\"\" ;\n")
		if of != (told{}) || short < 0 || short > impl.MaxString {
			t.Fatalf("%v, %d bytes", of, len(form))
		}
		form, of = format(t, begin+strings.Repeat(sum, count)+"\""+strings.Repeat("s", short)+"\";"+end)
		if of != (told{}) || len(form) != impl.MaxSource+more {
			t.Errorf("%v, %d bytes, not %d", of, len(form), impl.MaxSource+more)
		}
	}
}

// Sources of all kinds, and the same with other blanks, comments and brackets.
func TestFormsOfMadeUpSources(t *testing.T) {
	t.Parallel()
	for seed := range 500 {
		r := rand.New(rand.NewSource(int64(seed) + 31))
		g := madeUp(r, 5, 3)
		first, second := sourceOf(r, g), sourceOf(r, g)
		form, of := format(t, first)
		other, ofOther := format(t, second)
		if form != other || of != (told{}) || ofOther != (told{}) {
			t.Errorf("%q: %v,\n%s\nand %q: %v,\n%s", first, of, form, second, ofOther, other)
		}
	}
}

// Promise 18, for right and for wrong sources.
func TestOtherBlanksAreWrittenAlike(t *testing.T) {
	var right, wrong atomic.Int32
	seeds(t, 500, func(t *testing.T, seed int) {
		r := rand.New(rand.NewSource(int64(seed) + 41))
		text := madeRun(r, 0)
		if seed%2 == 1 {
			text = madeProgram(r, []int{0, 200}[seed/2%2])
		}
		tree, code, _, _ := impl.Parse([]byte(text))
		if code != 0 {
			return
		}
		g := grownOf(tree)
		if seed%5 == 4 {
			newSpoiler(r, g).spoil()
			if !impl.TreeOk(g.tree()) {
				return
			}
			text = sourceOf(r, g)
		}
		other := sourceOf(r, g)
		if len(text) > impl.MaxSource || len(other) > impl.MaxSource {
			return
		}
		stack := 16 * r.Intn(impl.MaxStack/16+1)
		isWritten := isWrittenAlike(t, text, other, stack)
		right.Add(int32(oneIf(isWritten)))
		wrong.Add(int32(oneIf(!isWritten)))
		form, _ := format(t, text)
		otherForm, _ := format(t, other)
		if form != otherForm {
			t.Errorf("%q and %q have two forms", text, other)
		}
		if len(form) <= impl.MaxSource {
			isWrittenAlike(t, text, form, stack)
			in := "some input"[:r.Intn(11)]
			a, _, _, _ := impl.Exec([]byte(text), []byte(in), 20000, stack)
			b, _, _, _ := impl.Exec([]byte(other), []byte(in), 20000, stack)
			c, _, _, _ := impl.Exec([]byte(form), []byte(in), 20000, stack)
			if !sameOutcome(a, b) || !sameOutcome(a, c) {
				t.Errorf("%.1000q: %v, otherwise %v, formatted %v", text, a, b, c)
			}
		}
	})
	if right.Load() < 250 || wrong.Load() < 30 {
		t.Errorf("%d are right, %d wrong", right.Load(), wrong.Load())
	}
}

// The sources that have each code, with their forms: both have that code.
func TestFormsOfWrongSources(t *testing.T) {
	t.Parallel()
	for code, marks := range sourcesOfCodes() {
		for _, marked := range marks {
			text, _, _ := unmarked(marked)
			form, of := format(t, text)
			if code < 12 {
				if of.code != code {
					t.Errorf("%.100q: %v, not %d", text, of, code)
				}
				continue
			}
			if len(form) <= impl.MaxSource && isWrittenAlike(t, text, form, 64) {
				t.Errorf("%.100q is written", text)
			}
		}
	}
}
