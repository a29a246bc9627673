package tests

import (
	"fmt"
	"math/big"
	"strings"
	"testing"

	"loop.example/s01681/impl"
)

var edgeWords = []uint32{0, 1, 2, 3, 7, 31, 32, 33, 0x7f, 0x80, 0xff, 0x8000, 0xffff, 0x7ffffffe, 0x7fffffff, 0x80000000, 0x80000001, 0xfffffffe, 0xffffffff}

// bigWord reckons with numbers that have no end, and gives false where a program would be undefined.
func bigWord(op string, unsigned bool, a, b uint32) (uint32, bool) {
	x, y := big.NewInt(int64(int32(a))), big.NewInt(int64(int32(b)))
	if unsigned {
		x, y = big.NewInt(int64(a)), big.NewInt(int64(b))
	}
	z := new(big.Int)
	switch op {
	case "+":
		z.Add(x, y)
	case "-":
		z.Sub(x, y)
	case "*":
		z.Mul(x, y)
	case "/", "%":
		if b == 0 {
			return 0, false
		}
		quo, rem := new(big.Int).QuoRem(x, y, new(big.Int))
		z = map[string]*big.Int{"/": quo, "%": rem}[op]
	case "&":
		z.And(x, y)
	case "|":
		z.Or(x, y)
	case "^":
		z.Xor(x, y)
	case "<<", ">>":
		if b > 31 {
			return 0, false
		}
		if op == "<<" {
			z.Lsh(x, uint(b))
		} else {
			z.Rsh(x, uint(b))
		}
	default:
		c := x.Cmp(y)
		z.SetInt64(int64(oneIf(c < 0 && strings.Contains(op, "<") || c > 0 && strings.Contains(op, ">") || c == 0 && op != "!=" && strings.Contains(op, "=") || c != 0 && op == "!=")))
	}
	return uint32(z.And(z, big.NewInt(1<<32-1)).Uint64()), true
}

// Each operator at the edges, signed and unsigned, of numbers and as an assignment; all of an operator in one program as
// far as they are defined, and one by one where not.
func TestOperationsAtTheEdges(t *testing.T) {
	t.Parallel()
	for _, op := range strings.Fields("+ - * / % & | ^ << >> < <= > >= == !=") {
		for _, unsigned := range []bool{false, true} {
			u := map[bool]string{false: "", true: "unsigned "}[unsigned]
			tests := ""
			for _, a := range edgeWords {
				for _, b := range edgeWords {
					want, ok := bigWord(op, unsigned, a, b)
					if ok {
						tests += fmt.Sprintf("%d %d %d\n", a, b, want)
						continue
					}
					undefined(t, fmt.Sprintf("%sint a=%d,b=%d;return a%sb;", u, a, b, op), fmt.Sprintf("%sint a=%d,b=%d;a%s=b;return 0;", u, a, b, op))
				}
			}
			// The operands and what is asked for come as input, four bytes each.
			source := fmt.Sprintf("%sint get(void){%sint n=0;int i;for(i=0;i<4;i++)n|=(%sint)getchar()<<i*8;return n;}", u, u, u)
			source += fmt.Sprintf("int main(void){int k=0;for(;;){%sint a=get(),b=get(),c=get();if(a==0&&b==0&&c==-1)return k;if((a%sb)!=c)return -1;k++;}}", u, op)
			in, count := []byte{}, 0
			for _, line := range strings.Fields(strings.ReplaceAll(tests, "\n", " ")) {
				n := 0
				fmt.Sscan(line, &n)
				in = append(in, byte(n), byte(n>>8), byte(n>>16), byte(n>>24))
				count++
			}
			in = append(in, 0, 0, 0, 0, 0, 0, 0, 0, 255, 255, 255, 255)
			o, code, _, _ := impl.Meaning([]byte(source), in, impl.MaxFuel)
			if code != 0 || o.End != impl.EndExit || o.Value != count/3 {
				t.Errorf("%s%s: %v, code %d, not %d", u, op, o, code, count/3)
			}
		}
	}
}

func TestOperationsByHand(t *testing.T) {
	exits(t, -2147483648, "", "int i=2147483647;i++;return i;")
	exits(t, 2147483647, "", "int i=-2147483647;i-=2;return i;")
	exits(t, -2147483648, "", "int i=-2147483647-1;return i/-1;")
	exits(t, 0, "", "int i=-2147483647-1;return i%-1;")
	exits(t, -1, "", "return-7/4+-7%4+3;")
	exits(t, 1, "", "int s=31;return 1<<s>>31==-1;")
	exits(t, 1, "", "int s=31;return(-2147483647-1)>>s==-1;")
	exits(t, 1, "", "int s=31;return 2147483648u>>s;")
	undefined(t, "int s=32;return 1<<s;", "int s=32;return 1>>s;", "int s=32;return 1u>>s;", "int s=-1;return 1<<s;", "int s=-1;return 0>>s;", "unsigned s=32,i=1;i<<=s;", "int i=1;i>>=32;", "unsigned i=1;i>>=33;", "char c=1;c<<=32;", "int z=0;return 0/z;", "int z=0;return 0%z;", "int z=0;return 0u/z;", "unsigned z=0;return 1%z;", "int i=1,z=0;i/=z;", "int i=1,z=0;i%=z;", "short h=1;h/=0;", "unsigned u=1;u%=0;")
	// Narrow of what is written and of casts.
	exits(t, -128, "", "char c=127;c++;return c;")
	exits(t, 127, "", "char c=127;return c++;")
	exits(t, -128, "", "char c=127;return++c;")
	exits(t, 0, "", "unsigned char c=255;return++c;")
	exits(t, 255, "", "unsigned char c=0;return--c;")
	exits(t, 0, "", "unsigned char c=0;return c--;")
	exits(t, -32768, "", "short c=32767;return c+=1;")
	exits(t, 65535, "", "unsigned short c=0;return c-=1;")
	exits(t, 44, "", "return(char)300;")
	exits(t, -56, "", "return(char)200;")
	exits(t, 200, "", "return(unsigned char)-56;")
	exits(t, 65535, "", "return(unsigned short)-1;")
	exits(t, -1, "", "return(short)65535;")
	exits(t, 1, "", "char c;return(c=257);")
	exits(t, 255, "", "int i;unsigned char c;i=c=-1;return i;")
	exits(t, 1, "", "char c=-1;unsigned char d=-1;return c<d&&c!=d&&(unsigned)c>d;")
	exits(t, 1, "", "char f(int i){return i;}@return f(257);")
	exits(t, -1, "", "int f(char c){return c;}@return f(255);")
	exits(t, 255, "", "int f(unsigned char c){return c;}@return f(-1);")
	exits(t, -2, "", "int f(char a,short b,unsigned short c){return a+b+c;}@return f(257,65533,65536);")
}

// pointerPlace is one of the pointers that are held against each other: an object by its name, or nil, fun or gone.
type pointerPlace struct {
	text   string
	object string
	offset int
	size   int
}

const pointerTops = "int fun(void){return 0;}int fun2(void){return 0;}union P{int*p;int(*f)(void);};int*of(int(*f)(void)){union P u;u.f=f;return u.p;}" +
	"int a[3],b[2];struct S{int m[3];};int*gone(int k){int z[2];return z+k;}int*same;"

var pointerPlaces = []pointerPlace{
	{"(int*)0", "nil", 0, 0}, {"same", "nil", 0, 0}, {"of(fun)", "fun", 0, 0}, {"of(fun2)", "fun2", 0, 0}, {"a", "a", 0, 12}, {"&a[1]", "a", 4, 12}, {"(a+3)", "a", 12, 12}, {"(int*)((char*)a+5)", "a", 5, 12},
	{"b", "b", 0, 8}, {"(b+1)", "b", 4, 8}, {"(b+2)", "b", 8, 8}, {"l", "l", 0, 8}, {"(l+2)", "l", 8, 8}, {"gone(0)", "gone", 0, 8}, {"gone(2)", "gone", 8, 8}, {"o", "gone", 0, 8},
}

func (p pointerPlace) isObject() bool { return p.size > 0 && p.object != "gone" }

func TestPairsOfPointers(t *testing.T) {
	t.Parallel()
	for _, p := range pointerPlaces {
		for _, q := range pointerPlaces {
			usable := p.object != "gone" && q.object != "gone"
			within := usable && p.isObject() && p.object == q.object
			body := pointerTops + "@int l[2],*o=gone(0),*p=" + p.text + ",*q=" + q.text + ";return "
			for _, op := range strings.Fields("< <= > >=") {
				word, _ := bigWord(op, false, uint32(p.offset), uint32(q.offset))
				isDefined(t, within, fmt.Sprintf("%s(p%sq)-%d;", body, op, word))
			}
			tellable := usable && !(p.isObject() && q.isObject() && p.object != q.object && (p.offset == p.size || q.offset == q.size))
			equal := oneIf(p.object == q.object && p.offset == q.offset)
			isDefined(t, tellable, fmt.Sprintf("%s(p==q)-%d;", body, equal))
			isDefined(t, tellable, fmt.Sprintf("%s(p!=q)-%d;", body, 1-equal))
			far := p.offset - q.offset
			isDefined(t, within && far%4 == 0, fmt.Sprintf("%s(p-q)-(%d);", body, far/4))
			isDefined(t, within, fmt.Sprintf("%s((char*)p-(char*)q)-(%d);", body, far))
			isDefined(t, within && far%12 == 0, fmt.Sprintf("%s((struct S*)p-(struct S*)q)-(%d);", body, far/12))
		}
	}
}

func TestMovesOfPointers(t *testing.T) {
	t.Parallel()
	for _, p := range pointerPlaces {
		for _, by := range []int{-13, -3, -2, -1, 0, 1, 3, 4, 12, 1 << 30, -1 << 30, 1<<31 - 1, -1 << 31} {
			for _, c := range []struct {
				of   string
				size int
			}{{"int", 4}, {"char", 1}, {"struct S", 12}} {
				start := fmt.Sprintf("%s@int l[2],*o=gone(0),*s=%s;int n=%d;%s*p=(%s*)s,*q;", pointerTops, p.text, by, c.of, c.of)
				for _, move := range []struct {
					text string
					sign int
				}{{"q=p+n;", 1}, {"q=n+p;", 1}, {"q=p-n;", -1}, {"q=&p[n];", 1}, {"q=p;q+=n;", 1}, {"q=p;q-=n;", -1}, {"q=(p+=n);", 1}, {"q=(p-=n,p);", -1}, {"q=p+(unsigned)n;", 1}} {
					to := p.offset + by*c.size*move.sign
					fits := p.isObject() && to >= 0 && to <= p.size
					end := "return 0;"
					if fits {
						end = fmt.Sprintf("return((char*)q-(char*)%s)-(%d);", p.object, to)
					}
					isDefined(t, fits, start+move.text+end)
				}
			}
		}
		// Steps by one, and what they give.
		for _, c := range []struct {
			text    string
			by      int
			changed int
		}{{"q=p++;", 4, 0}, {"q=++p;", 4, 4}, {"q=p--;", -4, 0}, {"q=--p;", -4, -4}} {
			to := p.offset + c.by
			end := "return 0;"
			if p.isObject() {
				end = fmt.Sprintf("return(char*)q-(char*)%s-(%d)||(char*)p-(char*)%s-(%d);", p.object, p.offset+c.changed, p.object, to)
			}
			isDefined(t, p.isObject() && to >= 0 && to <= p.size, pointerTops+"@int l[2],*o=gone(0),*p="+p.text+",*q;"+c.text+end)
		}
	}
}

func TestCallsByPointers(t *testing.T) {
	t.Parallel()
	tops := "int wi(int x){return x;}int wn(void){return 5;}int w2(int x,int y){return x+y;}int wc(char c){return c;}unsigned ui(unsigned x){return x;}char ci(int x){return x;}int wp(int*p){return 9;}void vi(int x){putchar('v');}int*pi(int x){return 0;}int wu(unsigned char c){return c;}" +
		"union F{int(*wi)(int);int(*wn)(void);int(*w2)(int,int);int(*wc)(char);unsigned(*ui)(unsigned);char(*ci)(int);int(*wp)(char*);void(*vi)(int);int*(*pi)(int);int(*wu)(unsigned char);int i;int*p;};int x;"
	// Those with the same kinds may stand for each other.
	signatures := map[string]string{"wi": "w(w)", "wn": "w()", "w2": "w(w,w)", "wc": "w(i8)", "ui": "w(w)", "ci": "i8(w)", "wp": "w(p)", "vi": "void(w)", "pi": "p(w)", "wu": "w(u8)"}
	calls := map[string]string{"wi": "(3)", "wn": "()", "w2": "(1,2)", "wc": "(3)", "ui": "(3)", "ci": "(3)", "wp": "(0)", "vi": "(3)", "pi": "(3)", "wu": "(3)"}
	for has, one := range signatures {
		for asks, other := range signatures {
			text := whole(fmt.Sprintf("%s@union F u;u.%s=%s;u.%s%s;return 0;", tops, has, strings.Replace(has, "wp", "(int(*)(char*))0", 1), asks, calls[asks]))
			if has == "wp" {
				text = whole(fmt.Sprintf("%sint wq(char*p){return 9;}@union F u;u.wp=wq;u.%s%s;return 0;", tops, asks, calls[asks]))
			}
			if o := mean(t, text, "", enough); (o.End == impl.EndExit) != (one == other) || o.End == impl.EndFuel {
				t.Errorf("%s as %s: %v", has, asks, o)
			}
		}
		undefined(t, tops+fmt.Sprintf("@union F u;u.p=0;u.%s%s;", has, calls[has]), tops+fmt.Sprintf("@union F u;u.p=&x;u.%s%s;", has, calls[has]), tops+fmt.Sprintf("@union F u;u.i=0;u.%s%s;", has, calls[has]), tops+fmt.Sprintf("@union F u;u.i=5;u.%s%s;", has, calls[has]), tops+fmt.Sprintf("@union F u;u.%s%s;", has, calls[has]),
			tops+fmt.Sprintf("int*gone(void){int z;return&z;}@union F u;u.p=gone();u.%s%s;", has, calls[has]))
	}
	exits(t, 53, "v", tops+"@int(*p)(void)=wn;void(*q)(int)=&vi;q(1);return(*p)()*10+(**wi)(3);")
	exits(t, 21, "", "int f(int x){return x+1;}int g(int x){return x*2;}int(*t[])(int)={f,g};int ap(int(*h)(int),int n){return h(n);}@return ap(t[0],ap(t[1],ap(f,9)));")
	exits(t, 120, "", "int fac(int n){int(*f)(int)=fac;return n?n*f(n-1):1;}@return fac(5);")
	// The arguments are come to ahead of the call that is undefined.
	if o := mean(t, whole("int(*p)(int);@p(putchar('a'));"), "", enough); o.End != impl.EndUndefined || string(o.Out) != "a" {
		t.Errorf("a call of null: %v", o)
	}
}

func TestResultsOfCalls(t *testing.T) {
	exits(t, 0, "", "int f(void){}@return f();")
	exits(t, 0, "", "unsigned char f(int x){x=5;}@return f(3);")
	exits(t, 1, "", "int*f(void){}@return f()==0;")
	exits(t, 1, "", "char*f(int x){if(x)return\"q\";}@return f(0)==0&&*f(1)=='q';")
	exits(t, 0, "", "int f(void){goto e;e:;}@return f();")
	exits(t, 0, "", "int f(void){while(1)break;}@return f();")
	exits(t, 7, "", "int f(int n){for(;;){while(1){switch(n){case 3:return 7;default:n--;}}}}@return f(5);")
	exits(t, 3, "", "void f(int*p){*p=3;return;*p=4;}@int x=1;f(&x);return x;")
	exits(t, 0, "ab", "void f(void){putchar('a');}void g(void){f();return;}@g();putchar('b');(void)f;return 0;")
	exits(t, 5, "", "int n;@n++;if(n<5)return main();return n;")
	exits(t, 21, "", "int f(int a,int b,int c,int d,int e,int g){a+=b;return a+c+d+e+g;}@int a=1;return f(a,2,3,4,5,6);")
	exits(t, 12345678, "", "int f(int a,char b,short c,unsigned d,int*e,unsigned char g,int h,int i){return((((((a*10+b)*10+c)*10+d)*10+*e)*10+g)*10+h)*10+i;}@int e=5;return f(1,2,3,4,&e,6,7,8);")
	// Each call has locals of its own.
	exits(t, 1, "", "int f(int n){int x=n;if(n<5)f(n+1);return x;}@return f(1);")
	exits(t, 1, "", "int*p;int f(int n){int x;if(n==0){p=&x;f(1);return&x==p;}return&x!=p;}@return f(0);")
}

func TestInputAndOutput(t *testing.T) {
	t.Parallel()
	exitsOn(t, "abc", 'a', "", "return getchar();")
	exitsOn(t, "\xff", 255, "", "return getchar();")
	exitsOn(t, "\x00", 0, "", "return getchar();")
	exitsOn(t, "", -1, "", "return getchar();")
	exitsOn(t, "x", -1, "", "getchar();getchar();return getchar();")
	exitsOn(t, "abc", 0, "abc", "int c;while((c=getchar())!=-1)putchar(c);return 0;")
	exitsOn(t, "abc", 0, "cba", "void f(void){int c=getchar();if(c==-1)return;f();putchar(c);}@f();return 0;")
	exitsOn(t, "12", 3, "", "return getchar()-'0'+getchar()-'0';")
	exitsOn(t, "91", 8, "", "return getchar()-getchar();")
	exitsOn(t, "ab", 1, "a", "return putchar(getchar())=='a'&&getchar()=='b';")
	exits(t, 321, "A", "return putchar(321);")
	exits(t, -1, "\xff", "return putchar(-1);")
	exits(t, 1, "\x00", "return putchar(256)==256;")
	exits(t, 0, "ab", "putchar('a'),putchar('b');return 0;")
	// In each place where a value may stand.
	for text, out := range map[string]string{
		"if(putchar('a'))putchar('b');return 0;": "ab", "int x=putchar('a');return 0;": "a", "int x[2]={putchar('a'),putchar('b')};return 0;": "ab", "int x[200];x[putchar('a')]=0;return x[97];": "a", "return putchar('a')-putchar('a');": "aa", "return!putchar('a');": "a", "return-putchar('a')+97;": "a", "char c;c=putchar('a');return 0;": "a", "switch(putchar('a')){case'a':return 0;}return 1;": "a",
		"int i=0;for(putchar('a');i<2;putchar('c'))i++,putchar('b');return 0;": "abcbc", "int i=2;while(putchar('0'+i)-'0')i--;return 0;": "210", "int i=2;do i--;while(putchar('0'+i)-'0');return 0;": "10", "return putchar('a')?0:1;": "a", "int i=0;i+=putchar('a');return i-97;": "a", "return sizeof putchar('a')-4;": "", "return(char)putchar('a')-97;": "a", "return 0*putchar('a');": "a", "return 0&&putchar('a');": "", "int*p,y[1];p=y+0*putchar('a');return p-y;": "a", "struct S{int a;};@struct S s[1],u;s[0].a=0;u=s[putchar('a')-97];return u.a;": "a",
	} {
		exits(t, 0, out, text)
	}
	for _, text := range []string{"exit(putchar(7));", "if(1)exit(7);", "int f(int x){exit(7);return x;}@return f(3);", "void f(void){exit(7);}@for(;;){f();}", "return(exit(7),1);", "1?exit(7):exit(8);", "int x=(exit(7),3);return x;", "int f(int x){return x;}@return f((exit(7),1))/0;", "while((exit(7),1));", "int*p=0;return(exit(7),*p);", "int f(int n){if(n==0)exit(7);return f(n-1);}@return f(20);", "switch((exit(7),1)){}"} {
		out := ""
		if strings.Contains(text, "putchar") {
			out = "\a"
		}
		exits(t, 7, out, text)
	}
	exits(t, -1, "ab", "putchar('a');putchar('b');exit(4294967295);putchar('c');")
	undefined(t, "int*p=0;exit(*p);")
}

// MaxOut bytes, and one more; in the midst of other values.
func TestMuchOutput(t *testing.T) {
	t.Parallel()
	for _, c := range []struct {
		text string
		end  int
		out  int
	}{
		{"int i;for(i=0;i<10000;i++)putchar('x');return 3;", impl.EndExit, impl.MaxOut}, {"int i;for(i=0;i<10001;i++)putchar('x');return 3;", impl.EndUndefined, impl.MaxOut}, {"int i;for(i=0;i<9999;i++)putchar('x');return putchar('x');", impl.EndExit, impl.MaxOut}, {"int i;for(i=0;i<9999;i++)putchar('x');return putchar('x')+putchar('x');", impl.EndUndefined, impl.MaxOut}, {"int i;for(i=0;i<10000;i++)putchar('x');exit(putchar('x'));", impl.EndUndefined, impl.MaxOut}, {"int i;for(i=0;i<10000;i++)putchar('x');getchar();exit(3);", impl.EndExit, impl.MaxOut}, {"int i;for(i=0;i<10000;i++)putchar('x');return 0&&putchar('x');", impl.EndExit, impl.MaxOut},
	} {
		if o := mean(t, whole(c.text), "", 500000); o.End != c.end || len(o.Out) != c.out || strings.Trim(string(o.Out), "x") != "" {
			t.Errorf("%q: %d, %d bytes", c.text, o.End, len(o.Out))
		}
	}
}

// Values are come to from the first to the last: a to z write themselves and give numbers, p and q places.
func TestOrderOfValues(t *testing.T) {
	t.Parallel()
	tops := "int x,y,z[4];int*h;struct S{int n;};struct S s,u;int w(int c){putchar(c);return c;}int a(void){w('a');return 1;}int b(void){w('b');return 2;}int c(void){w('c');return 3;}int o(void){w('o');return 0;}int*p(void){w('p');return&x;}int*q(void){w('q');return&y;}int**hh(void){w('h');return&h;}struct S*ss(void){w('s');return&s;}struct S*uu(void){w('u');return&u;}int f(int i,int j,int k){w('f');return i*100+j*10+k;}int(*ff(void))(int,int,int){w('F');return f;}"
	for _, c := range []struct {
		expr, out string
		value     int
	}{
		{"a()+b()", "ab", 3}, {"a()-b()*c()", "abc", -5}, {"(a()-b())*c()", "abc", -3}, {"c()/b()", "cb", 1}, {"c()<<b()", "cb", 12}, {"a()<b()", "ab", 1}, {"b()>a()", "ba", 1}, {"a()==a()", "aa", 1}, {"a()|b()", "ab", 3},
		{"*p()=b()", "pb", 2}, {"(*p()=c(),x)", "pc", 3}, {"*p()=*q()", "pq", 0}, {"*p()+=b()", "pb", 2}, {"(*p())++", "p", 0}, {"++*p()", "p", 1}, {"*p()<<=c()", "pc", 0}, {"z[b()]=a()", "ba", 1}, {"(z+a())[b()]", "ab", 0}, {"*(a()+z)", "a", 0}, {"(*hh()=p())==&x", "hp", 1}, {"(*hh()=z,*hh()+=b())-z", "hhb", 2}, {"(*hh()=z+2,*hh()-=a())-z", "hha", 1},
		{"p()==q()", "pq", 0}, {"p()-p()", "pp", 0}, {"p()<=p()", "pp", 1}, {"(p()+o())==(o()+p())", "poop", 1}, {"a(),b()", "ab", 2}, {"(a(),b(),c())", "abc", 3},
		{"f(a(),b(),c())", "abcf", 123}, {"f(c(),f(o(),b(),a()),a())", "cobafaf", 3*100 + 21*10 + 1}, {"ff()(a(),b(),c())", "Fabcf", 123}, {"(a(),ff())(b(),a(),c())", "aFbacf", 213}, {"(*ss()=*uu(),s.n)", "su", 0}, {"ss()->n=uu()->n", "su", 0}, {"(*ss()).n+=a()", "sa", 1},
		{"a()?b():c()", "ab", 2}, {"o()?b():c()", "oc", 3}, {"p()?a():b()", "pa", 1}, {"a()&&b()", "ab", 1}, {"o()&&b()", "o", 0}, {"a()||b()", "a", 1}, {"o()||b()", "ob", 1}, {"o()||o()", "oo", 0}, {"a()&&o()", "ao", 0}, {"a()&&b()&&o()&&c()", "abo", 0}, {"o()||a()&&c()||b()", "oac", 1}, {"p()&&q()", "pq", 1}, {"p()||q()", "p", 1}, {"!a()&&b()", "a", 0}, {"o()?a():o()?b():c()", "ooc", 3}, {"a()?o()?a():b():c()", "aob", 2}, {"(a()||b())+(o()&&c())", "ao", 1}, {"w('x')*0+w('y')*0", "xy", 0},
		// The right side changes the old value.
		{"x+=(x=5)", "", 10}, {"x-=x++", "", 1}, {"(x=3,x*=(x=4)+x)", "", 32}, {"x+=x+++x++", "", 3}, {"(x=7,x/=--x)", "", 1}, {"(h=z,(h+=(h=z+1,1))-z)", "", 2}, {"(h=z+3,(h-=(h=z+2,1))-z)", "", 1}, {"z[x++]=x", "", 1}, {"x=x+++x", "", 1}, {"(x=2,x+++x*x)", "", 11}, {"(x=1,x+(x=5)+x)", "", 11}, {"(h=&x,*h++=7,x)", "", 7}, {"(h=z,*h++=b(),h-z)", "b", 1}, {"(h=&x,*h=(h=&y,9),x*10+y)", "", 90},
	} {
		exits(t, c.value, c.out, tops+"@return "+c.expr+";")
		exits(t, c.value, c.out, tops+"@int v=("+c.expr+");return v;")
		exits(t, c.value, c.out, tops+"int wrap(int v){return v;}@return wrap(("+c.expr+"));")
	}
	// What is undefined comes when it is come to.
	for text, out := range map[string]string{
		"*p()=*(int*)0;": "p", "*(int*)0=b();": "b", "a()/o();": "ao", "a()/o()+b();": "ao", "f(a(),1/o(),b());": "ao", "a()<<(w(32)+b());": "a b", "z[a()+c()]+b();": "ac", "*(z+4)=b();": "b", "(a(),*(int*)0)+b();": "a", "*(struct S*)ss()=*(struct S*)(z+4-o());": "so",
	} {
		if o := mean(t, whole(tops+"@"+text), "", enough); o.End != impl.EndUndefined || string(o.Out) != out {
			t.Errorf("%q: %d, %q, not %q", text, o.End, o.Out, out)
		}
	}
}
