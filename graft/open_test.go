package graft

import (
	"fmt"
	"math/rand"
	"runtime"
	"slices"
	"strings"
	"testing"
)

// sameAsRead: Open makes of these bytes what the model reads of them.
func sameAsRead(t *testing.T, pack string) *grove {
	t.Helper()
	g := read(pack)
	if got := state(Open(pack)); got != g.state() {
		t.Fatalf("Open(%q) is\n%s\nwant\n%s", pack, got, g.state())
	}
	return g
}

// isRefused: behind some right records, Open takes neither this one nor what
// comes behind it.
func isRefused(t *testing.T, wrong string, right ...string) {
	t.Helper()
	want := state(opened(t, right...))
	for _, behind := range []string{"", byHand('B', "\x00z"), byHand('C', "\x00z =\n"), wrong} {
		if got := state(Open(strings.Join(right, "") + wrong + behind)); got != want {
			t.Errorf("behind %q, %.200q and %.200q were taken: %q", right, wrong, behind, got)
		}
	}
}

// grown: the records of a store that has grown apart and together. Behind the
// last commit the branch's head is not told any more.
func grown() []string {
	return []string{
		byHand('B', "\x00a"), byHand('B', "\x00b"),
		byHand('C', "\x00k #5\nl/m *p;q\n"), byHand('B', "\x01a"),
		byHand('C', "\x00n/o/p/q =\n"), byHand('B', "\x02b"),
		byHand('C', "\x02\x01\x02k #5\nl/m *p;q\nn/o/p/q =\n"), byHand('B', "\x03a"),
		byHand('B', "\x01c0"), byHand('C', "\x01\x01"), byHand('B', "\x04c0"), byHand('D', "b"),
		byHand('B', "\x00b"), byHand('B', "\x03b"), byHand('C', "\x01\x03k #-1000000000\n"),
	}
}

func TestOpenOfNothing(t *testing.T) {
	s := Open("")
	hasPack(t, s)
	hasBranches(t, s)
	hasNoTree(t, s, 1)
	allowed(t, "Branch", s.Branch("a"))
	hasPack(t, s, byHand('B', "\x00a"))
}

// The heads are those that were told last, and at work on are their trees.
func TestOpen(t *testing.T) {
	s := opened(t, grown()...)
	hasBranches(t, s, "a", "b", "c0")
	hasHistory(t, s, "a", 3, 2, 1)
	hasHistory(t, s, "b", 3, 2, 1)
	hasHistory(t, s, "c0", 4, 1)
	shows(t, s, "a", "k #5\nl/m *p;q\nn/o/p/q =\n")
	shows(t, s, "b", "k #5\nl/m *p;q\nn/o/p/q =\n")
	shows(t, s, "c0", "")
	hasTree(t, s, 1, "k #5\nl/m *p;q\n")
	hasTree(t, s, 2, "n/o/p/q =\n")
	hasTree(t, s, 3, "k #5\nl/m *p;q\nn/o/p/q =\n")
	hasTree(t, s, 4, "")
	hasTree(t, s, 5, "k #-1000000000\n")
	hasNoTree(t, s, 6)
	hasBase(t, s, 4, 5, "k #5\nl/m *p;q\n")
	// A branch may be told again, with any head, and with none.
	shows(t, opened(t, append(grown(), byHand('B', "\x02a"))...), "a", "n/o/p/q =\n")
	s = opened(t, append(grown(), byHand('B', "\x00a"))...)
	shows(t, s, "a", "")
	hasHistory(t, s, "a")
}

// What was at work on is not in the pack.
func TestOpenLeavesWorkBehind(t *testing.T) {
	s := rooted(t)
	allowed(t, "Add", s.Add("a", "n", 9))
	allowed(t, "Branch", s.Branch("b"))
	allowed(t, "Add", s.Add("b", "n", 9))
	x := Open(s.Pack())
	shows(t, x, "a", "n #0\ns *x;y\nt =\n")
	shows(t, x, "b", "")
	commitsNot(t, x, "a", ErrSame)
	shows(t, s, "a", "n #9\ns *x;y\nt =\n")
}

// A store goes on behind the pack that it was made of.
func TestOpenGoesOn(t *testing.T) {
	all := grown()
	s := opened(t, all...)
	joins(t, s, "b", "c0", 6)
	all = append(all, byHand('C', "\x02\x03\x04n/o/p/q =\n"), byHand('B', "\x06b"))
	hasPack(t, s, all...)
	joins(t, s, "a", "b", 6)
	allowed(t, "Put", s.Put("a", "l/m", "z"))
	commits(t, s, "a", 7)
	all = append(all, byHand('B', "\x06a"), byHand('C', "\x01\x06l/m *z\nn/o/p/q =\n"), byHand('B', "\x07a"))
	hasPack(t, s, all...)
	allowed(t, "Drop", s.Drop("c0"))
	all = append(all, byHand('D', "c0"))
	s = opened(t, all...)
	hasBranches(t, s, "a", "b")
	hasHistory(t, s, "a", 7, 6, 4, 3, 2, 1)
}

// A pack that was cut off anywhere is read up to the last whole record, and a
// store goes on behind that.
func TestOpenOfACutPack(t *testing.T) {
	all, ahead := strings.Join(grown(), ""), ""
	for _, next := range grown() {
		for cut := range len(next) {
			sameAsRead(t, ahead+next[:cut])
			s := Open(ahead + next[:cut])
			hasPack(t, s, ahead)
			allowed(t, "Branch", s.Branch("new"))
			hasPack(t, s, ahead, byHand('B', "\x00new"))
		}
		ahead += next
	}
	hasPack(t, Open(ahead), all)
}

// One byte is another one: what is ahead of its record is right.
func TestOpenOfASpoiltPack(t *testing.T) {
	records := grown()
	ahead := ""
	for _, r := range records {
		for i := range len(r) {
			for bit := range 8 {
				spoilt := []byte(r)
				spoilt[i] ^= 1 << bit
				hasPack(t, Open(ahead+string(spoilt)), ahead)
				sameAsRead(t, ahead+string(spoilt)+ahead)
			}
		}
		ahead += r
	}
}

func TestOpenOfAWrongCheck(t *testing.T) {
	for c := range 256 {
		r := string([]byte{'B', 0, 2, 0, 'a', byte(c)})
		if c == 166 {
			opened(t, r)
		} else {
			isRefused(t, r)
		}
	}
	// What is the check modulo 251, and is not the check.
	six := slices.Repeat([]string{byHand('C', "\x00")}, 6)
	for head := 2; head <= 6; head++ {
		r := byHand('B', string(rune(head))+"z9")
		if check := int(r[6]); check != head-2 {
			t.Fatalf("the check is %d", check)
		}
		isRefused(t, r[:6]+string([]byte{byte(head - 2 + 251)}), six...)
	}
	// The check of a B, with another letter or length ahead.
	isRefused(t, "C"+byHand('B', "\x00a")[1:])
	isRefused(t, "B\x00\x03\x00a"+byHand('B', "\x00a")[5:])
	isRefused(t, "B\x02\x00\x00a"+byHand('B', "\x00a")[5:])
}

func TestOpenOfWrongHeads(t *testing.T) {
	a, c := byHand('B', "\x00a"), byHand('C', "\x00k #5\n")
	for _, body := range []string{"", "\x00", "a", "\x01a", "\x02a", "\xffa", "\x00A", "\x00a b", "\x00a\n", "\x00\x00a", "\x00abcdefghi", "\x00a/b", "\x00\xff"} {
		isRefused(t, byHand('B', body))
		isRefused(t, byHand('B', body), a)
	}
	opened(t, c, byHand('B', "\x01a"))
	for _, head := range []string{"\x02", "\x03", "\x3c", "\x3d", "\x80", "\xff"} {
		isRefused(t, byHand('B', head+"a"), c)
		isRefused(t, byHand('B', head+"a"), a, c)
	}
	for _, name := range noNames {
		isRefused(t, byHand('B', "\x00"+name[:min(len(name), 60000)]), a)
	}
}

func TestOpenOfBranchesTooMany(t *testing.T) {
	var six []string
	for _, name := range strings.Split("abcdef", "") {
		six = append(six, byHand('B', "\x00"+name))
	}
	c := byHand('C', "\x00k #5\n")
	isRefused(t, byHand('B', "\x00g"), six...)
	isRefused(t, byHand('B', "\x01g"), append(six, c)...)
	// One that is there is none more; one that is no more makes room.
	s := opened(t, append(six, six[0], six[5], c, byHand('B', "\x01f"), byHand('D', "c"), byHand('B', "\x01g"))...)
	hasBranches(t, s, "a", "b", "d", "e", "f", "g")
	isRefused(t, byHand('B', "\x00c"), append(six, byHand('D', "c"), byHand('B', "\x00g"))...)
	refused(t, s, "Branch", func() Errno { return s.Branch("c") }, ErrMany)
}

func TestOpenOfWrongDrops(t *testing.T) {
	a, b := byHand('B', "\x00a"), byHand('B', "\x00b")
	for _, name := range []string{"", "a", "A", "\x00a"} {
		isRefused(t, byHand('D', name))
		isRefused(t, byHand('D', name), b)
	}
	for _, name := range []string{"", "b", "aa", "a\n", "\x00a"} {
		isRefused(t, byHand('D', name), a)
	}
	isRefused(t, byHand('D', "a"), a, byHand('D', "a"))
	opened(t, a, byHand('D', "a"), a, byHand('D', "a"))
}

func TestOpenOfWrongParents(t *testing.T) {
	c := byHand('C', "\x00k #5\n")
	isRefused(t, byHand('C', ""))
	for _, body := range []string{"\x01", "\x02", "\x01\x00", "\x01\x01", "\x02\x01\x01", "\x02\x00\x00", "\x03", "\xff", "\x01k #5\n", "k #5\n"} {
		isRefused(t, byHand('C', body))
	}
	for _, body := range []string{"", "\x01", "\x01\x00", "\x01\x02", "\x01\x03", "\x01\xff", "\x02\x01", "\x02\x01\x01", "\x02\x01\x02", "\x02\x00\x01", "\x02\x01\x00", "\x03\x01\x01\x01"} {
		isRefused(t, byHand('C', body), c)
		isRefused(t, byHand('C', body+"k #5\n"), c)
	}
	for _, body := range []string{"\x01\x04", "\x02\x02\x02", "\x02\x03\x03k #5\n", "\x02\x01\x04", "\x02\x04\x01", "\x03\x01\x02\x03", "\x04\x01\x02\x03"} {
		isRefused(t, byHand('C', body), c, c, c)
	}
	// Each way that is right: also one parent in the other one's history.
	s := opened(t, c, byHand('C', "\x00"), byHand('C', "\x01\x01"), byHand('C', "\x02\x01\x03"), byHand('C', "\x02\x03\x01k =\n"), byHand('C', "\x02\x02\x05k =\n"), byHand('B', "\x06a"))
	hasHistory(t, s, "a", 6, 5, 3, 2, 1)
}

func TestOpenOfCommitsTooMany(t *testing.T) {
	var all []string
	for n := range maxCommits {
		p := planting{tree: model{"n": fmt.Sprintf("#%d", n)}}
		if n > 1 {
			p.parents = []int{n, n - 1}
		}
		all = append(all, p.record())
	}
	isRefused(t, byHand('C', "\x00"), all...)
	isRefused(t, byHand('C', "\x01\x3ck #5\n"), all...)
	isRefused(t, byHand('B', "\x3da"), all...)
	s := opened(t, append(all, byHand('B', "\x3ca"))...)
	shows(t, s, "a", "n #59\n")
	allowed(t, "Add", s.Add("a", "n", 1))
	commitsNot(t, s, "a", ErrMany)
	joinsNot(t, s, "a", "a", ErrSame)
}

var rightTrees = []string{
	"", "k #0\n", "k #9\n", "k #10\n", "k #-1\n", "k #1000000000\n", "k #-1000000000\n", "k =\n", "k = \n", "k =  \n", "k =#05\n", "k =a b\n", "k ==\n", "k =~!:<\n", "k * \n", "k *a\n", "k **\n", "k *a;b\n", "k * ;!;A;a;aa;b\n", "k *a;b;c;d;e;f;g;h\n", "0 =\n", "a/b/c/d =\n", "a/b =\na/c =\n", "a/b =\na0 =\n", "a/b/c =\na/b0 =\na0 =\n", "abcdefgh/01234567/a/b #1\n", "k =" + strings.Repeat("x", 20) + "\n", "k *" + strings.Repeat("x", 20) + "\n", numbered(0, 24, "#1"),
}

var wrongTrees = []string{
	"k", "k\n", "k ", "k \n", "k #5", "k #5\nl", "k #5\nl #6", "\n", "k #5\n\n", "\nk #5\n", "k #5\r\n", "k#5\n", " #5\n", " k #5\n", "k  #5\n", "k\t#5\n", "k #5 \n",
	"k #\n", "k #-\n", "k #05\n", "k #00\n", "k #-0\n", "k #-05\n", "k #+5\n", "k #5.0\n", "k #1e3\n", "k #0x5\n", "k #1_0\n", "k # 5\n", "k #1000000001\n", "k #-1000000001\n", "k #4294967297\n", "k #18446744073709551617\n", "k #" + strings.Repeat("9", 60000) + "\n",
	"k =;\n", "k =a;b\n", "k =\x1f\n", "k =\x7f\n", "k =\x80\n", "k =\u00e9\n", "k =" + strings.Repeat("x", 21) + "\n",
	"k *\n", "k *;\n", "k *a;\n", "k *;a\n", "k *a;;b\n", "k *a;a\n", "k *a;b;a\n", "k *b;a\n", "k *aa;a\n", "k *a;b;c;d;e;f;g;h;i\n", "k *a;\x7f\n", "k *" + strings.Repeat("x", 21) + "\n",
	"k ?5\n", "k 5\n", "k a\n", "k ;\n", "k \x00\n", "K #5\n", "/ #5\n", "/k #5\n", "k/ #5\n", "k//k #5\n", "a/b/c/d/e #5\n", "abcdefghi #5\n", "k\x00 #5\n",
	"b #1\na #1\n", "a #1\na #1\n", "a #0\na #0\n", "a =\na =\n", "a *x\na *y\n", "a *x\na *x\n", "a #1\na =\n", "a =\na/b =\n", "a/b/c =\na/b/c/d =\n", "a =\na/b/c/d =\n", "a0 =\na/b =\n", "a/c =\na/b/d =\n", numbered(0, 25, "#1"), numbered(0, 24, "#1") + "k #1\n", strings.Repeat("a =\n", 16000),
}

// A commit's tree is just as it is written, or the record is not right.
func TestOpenOfTrees(t *testing.T) {
	c := byHand('C', "\x00k #5\n")
	for _, tree := range rightTrees {
		hasTree(t, opened(t, byHand('C', "\x00"+tree)), 1, tree)
		hasTree(t, opened(t, c, byHand('C', "\x01\x01"+tree)), 2, tree)
		hasTree(t, opened(t, c, c, byHand('C', "\x02\x01\x02"+tree)), 3, tree)
		if readModel(tree) == nil {
			t.Errorf("the model does not read %q", tree)
		}
	}
	for _, tree := range wrongTrees {
		isRefused(t, byHand('C', "\x00"+tree))
		isRefused(t, byHand('C', "\x01\x01"+tree), c)
		isRefused(t, byHand('C', "\x02\x01\x02"+tree), c, c)
		if readModel(tree) != nil {
			t.Errorf("the model reads %q", tree)
		}
	}
}

// Bytes that are no pack.
func TestOpenOfNoPack(t *testing.T) {
	for c := range 256 {
		one := string([]byte{byte(c)})
		for n := range 8 {
			sameAsRead(t, strings.Repeat(one, n))
		}
		sameAsRead(t, one+byHand('B', "\x00a"))
		if c != 'B' {
			isRefused(t, byHand(byte(c), "\x00a"), byHand('B', "\x00a"))
		}
		if c != 'C' {
			isRefused(t, byHand(byte(c), "\x00k #5\n"))
		}
		if c != 'D' {
			isRefused(t, byHand(byte(c), "a"), byHand('B', "\x00a"))
		}
	}
	for _, pack := range []string{"graft", "BBBBBBBBBBBBBBBB", "B\xff\xff\x00a\xa6", "C\xff\xff", "\x00\x00\x00\x01", strings.Repeat("C\x00\x00", 1<<20), strings.Repeat("\xff", 1<<22)} {
		isRefused(t, pack)
	}
	// The longest record there can be, whole, with its check.
	isRefused(t, byHand('C', "\x00"+strings.Repeat("k", 65534)))
	isRefused(t, byHand('B', "\x00"+strings.Repeat("k", 65534)))
	isRefused(t, byHand('D', strings.Repeat("k", 65535)))
}

// scrap: a record that is mostly right, or nearly.
func scrap(r *rand.Rand, made int) string {
	number := func() string {
		if r.Intn(25) == 0 {
			return string([]byte{byte(r.Intn(256))})
		}
		return string([]byte{byte(r.Intn(made + 1))})
	}
	name := []string{"a", "b", "c", "d", "e", "f", "g", "h0"}[r.Intn(8)]
	tree := rightTrees[r.Intn(len(rightTrees))]
	if r.Intn(25) == 0 {
		tree = wrongTrees[r.Intn(len(wrongTrees))]
	}
	switch r.Intn(10) {
	case 0:
		return byHand('D', name)
	case 1, 2, 3, 4:
		return byHand('B', number()+name)
	case 5:
		return byHand('C', "\x00"+tree)
	case 6, 7:
		return byHand('C', "\x01"+number()+tree)
	case 8:
		return byHand('C', "\x02"+number()+number()+tree)
	}
	spoilt := []byte(byHand('B', number()+name))
	spoilt[r.Intn(len(spoilt))] += byte(r.Intn(3))
	return string(spoilt)
}

// Packs of random records are what the model reads of them, and so are the
// packs that come of them.
func TestOpenOfRandomRecords(t *testing.T) {
	r := rand.New(rand.NewSource(5))
	longest, most := 0, 0
	for range 3000 {
		g, pack := newGrove(), ""
		for range 1 + r.Intn(120) {
			next := scrap(r, len(g.commits))
			// Mostly only what is right, so that the packs grow long.
			if taken := g.readOne(next); taken || r.Intn(20) == 0 {
				pack += next
				if !taken {
					break
				}
			}
		}
		g = sameAsRead(t, pack)
		sameAsRead(t, g.pack)
		longest, most = max(longest, len(g.commits)), max(most, len(g.trees))
	}
	if longest < 40 || most < 6 {
		t.Errorf("the packs were too short: at most %d commits, %d branches", longest, most)
	}
}

// reopen: the model of a store that is made of the pack of another one.
func (g *grove) reopen() {
	pack := g.pack
	for name, head := range g.heads {
		g.move(name, head)
	}
	g.pack = pack
}

// Whatever was done, a store that is made of its pack is the same, but for what
// was at work on, and goes on as its model does.
func TestOpenWalk(t *testing.T) {
	r := rand.New(rand.NewSource(6))
	most := 0
	for range 6 {
		s, g := planted(t), newGrove()
		g.move("a", 0)
		for range 2000 {
			if got, want := growStep(t, r, s, g); got != want {
				t.Fatalf("a step answered %d, want %d", got, want)
			}
			if r.Intn(12) > 0 {
				continue
			}
			s = Open(s.Pack())
			g.reopen()
			if state(s) != g.state() {
				t.Fatalf("the store is\n%s\nwant\n%s", state(s), g.state())
			}
		}
		sameAsRead(t, g.pack)
		for range 60 {
			sameAsRead(t, g.pack[:r.Intn(len(g.pack)+1)])
		}
		most = max(most, len(g.commits))
	}
	if most < maxCommits {
		t.Errorf("the walks made no more than %d commits", most)
	}
}

// Histories that no calls could have made end soon as well: every commit has
// two parents, and many ways lead down.
func TestOpenOfManyWays(t *testing.T) {
	var all []string
	for n := range maxCommits {
		p := planting{tree: model{"k": "#1"}}
		if n > 1 {
			p.parents = []int{n - 1, n}
		}
		all = append(all, p.record())
	}
	before := runtime.NumGoroutine()
	s := opened(t, append(all, byHand('B', "\x3ca"), byHand('B', "\x3bb"))...)
	for a := range maxCommits {
		for b := range maxCommits {
			s.Base(a+1, b+1)
		}
	}
	joins(t, s, "a", "b", 60)
	joins(t, s, "b", "a", 60)
	hasEnded(t, before)
}
