package graft

import (
	"fmt"
	"math/rand"
	"strings"
	"testing"
)

// trees: of all commits, in order.
func trees(s *Store) []string {
	var all []string
	for n := 1; ; n++ {
		tree, e := s.Tree(n)
		if e != OK {
			return all
		}
		all = append(all, tree)
	}
}

// stay: the commits' trees are these, and there may be more behind them.
func stay(t *testing.T, s *Store, want []string) {
	t.Helper()
	got := trees(s)
	if len(got) < len(want) {
		t.Fatalf("there were %d commits, and there are %d", len(want), len(got))
	}
	for i, tree := range want {
		if got[i] != tree {
			t.Fatalf("the tree of %d was %q and is %q", i+1, tree, got[i])
		}
	}
}

// bothWays: two branches of a pack are joined in both ways round, each in a
// store of its own, and become the same tree, or the same error.
func bothWays(t *testing.T, pack string, a string, b string) Errno {
	t.Helper()
	one, other := Open(pack), Open(pack)
	n, e := one.Join(a, b)
	m, f := other.Join(b, a)
	if e != f {
		t.Fatalf("Join(%s, %s) answers %d, and the other way round %d, of %q", a, b, e, f, pack)
	}
	if e != OK {
		hasPack(t, one, pack)
		hasPack(t, other, pack)
		return e
	}
	x, _ := one.Show(a)
	y, _ := other.Show(b)
	if n != m || x != y {
		t.Fatalf("Join(%s, %s) is %d: %q, and the other way round %d: %q", a, b, n, x, m, y)
	}
	stay(t, one, trees(Open(pack)))
	stay(t, other, trees(Open(pack)))
	joinedAgain(t, one, a, b, n)
	joinedAgain(t, other, b, a, m)
	return e
}

// joinedAgain: what was joined just now, with this number, is not joined again;
// and the other branch, whose head is in this one's history, comes forward
// without a commit.
func joinedAgain(t *testing.T, s *Store, into string, from string, number int) {
	t.Helper()
	after := state(s)
	joins(t, s, into, from, number)
	joins(t, s, into, from, number)
	if state(s) != after {
		t.Fatalf("a join again changed the store: %q, then %q", after, state(s))
	}
	before, count := s.Pack(), len(trees(s))
	forward := byHand('B', string(rune(number))+from)
	if history, _ := s.History(from); len(history) == 0 && number == 0 || len(history) > 0 && history[0] == number {
		forward = ""
	}
	joins(t, s, from, into, number)
	hasPack(t, s, before, forward)
	if len(trees(s)) != count {
		t.Fatalf("there were %d commits, and there are %d", count, len(trees(s)))
	}
	ours, _ := s.Show(into)
	shows(t, s, from, ours)
}

// bothWaysInOne: the same in one store, where a third branch keeps the head
// that one of both had.
func bothWaysInOne(t *testing.T, pack string, a string, b string) {
	t.Helper()
	s := Open(pack)
	allowed(t, "Fork", s.Fork("third", a))
	n, e := s.Join(a, b)
	m, f := s.Join(b, "third")
	if e != f {
		t.Fatalf("Join(%s, %s) answers %d, and the other way round %d, of %q", a, b, e, f, pack)
	}
	if e == OK {
		x, _ := s.Show(a)
		shows(t, s, b, x)
	}
	if made := len(trees(s)) - len(trees(Open(pack))); e == OK && made != 2*(m-n) {
		t.Fatalf("%d commits were made, though the joins answered %d and %d", made, n, m)
	}
}

func TestBothWaysRound(t *testing.T) {
	sides := []string{"", "k #1\n", "k #7\n", "k =\n", "k =x\n", "k *a\n", "k *b;z\n", "k *a;b;c;d;e;f;g;h\n", "k/l #1\n", "k #1000000000\n"}
	seen := map[Errno]int{}
	for _, base := range sides {
		for _, ours := range sides {
			for _, theirs := range sides {
				records := []string{byHand('C', "\x00"+base), byHand('C', "\x01\x01"+ours), byHand('C', "\x01\x01"+theirs), byHand('B', "\x02a"), byHand('B', "\x03b")}
				pack := strings.Join(records, "")
				seen[bothWays(t, pack, "a", "b")]++
				bothWaysInOne(t, pack, "a", "b")
			}
		}
	}
	for _, e := range []Errno{OK, ErrMany, ErrKind, ErrBlock, ErrCount} {
		if seen[e] == 0 {
			t.Errorf("no join answered the error %d: %v", e, seen)
		}
	}
}

// A head in the other one's history, the same heads, and none at all.
func TestBothWaysForward(t *testing.T) {
	history := byHand('C', "\x00k #1\n") + byHand('C', "\x01\x01k #2\n") + byHand('C', "\x02\x01\x02k #3\n")
	for a := range 4 {
		for b := range 4 {
			pack := history + byHand('B', string(rune(a))+"a") + byHand('B', string(rune(b))+"b")
			if e := bothWays(t, pack, "a", "b"); e != OK {
				t.Errorf("the join of %d and %d answers %d", a, b, e)
			}
			s := Open(pack)
			joins(t, s, "a", "b", max(a, b))
			joins(t, s, "a", "a", max(a, b))
			hasNoTree(t, s, 4)
		}
	}
}

// randomPack: commits with random parents and trees, and branches on some.
func randomPack(r *rand.Rand) string {
	var b strings.Builder
	count := 4 + r.Intn(30)
	for i := range count {
		p := planting{parents: r.Perm(min(i, 6))[:min(i, []int{0, 1, 1, 2, 2, 2}[r.Intn(6)])], tree: model{}}
		for k := range p.parents {
			p.parents[k] = i - p.parents[k]
		}
		for range r.Intn(8) {
			path := []string{"k", "l", "m", "n/a", "n/b", "o"}[r.Intn(6)]
			switch path {
			case "k", "l":
				p.tree[path] = fmt.Sprintf("#%d", r.Intn(900)-300)
			case "m":
				p.tree[path] = "=" + string(rune('a'+r.Intn(5)))
			default:
				p.tree[path] = []string{"*a", "*a;b", "*b;c", "*a;d;e", "*f"}[r.Intn(5)]
			}
		}
		b.WriteString(p.record())
	}
	for _, name := range []string{"a", "b", "c", "d"} {
		b.WriteString(byHand('B', string(rune(r.Intn(count+1)))+name))
	}
	return b.String()
}

func TestBothWaysOfRandomPacks(t *testing.T) {
	r := rand.New(rand.NewSource(7))
	made := 0
	for range 150 {
		pack := randomPack(r)
		s := opened(t, pack)
		for _, a := range s.Branches() {
			for _, b := range s.Branches() {
				if bothWays(t, pack, a, b) == OK {
					made++
				}
				bothWaysInOne(t, pack, a, b)
			}
		}
	}
	if made < 1000 {
		t.Errorf("only %d joins came out", made)
	}
}

// Whatever is done later, a commit's tree stays: through calls, and through
// stores made of the pack.
func TestTreesStayOnWalks(t *testing.T) {
	r := rand.New(rand.NewSource(8))
	most := 0
	for range 6 {
		s, g := planted(t), newGrove()
		g.move("a", 0)
		var kept []string
		for range 1500 {
			growStep(t, r, s, g)
			stay(t, s, kept)
			if kept = trees(s); r.Intn(10) == 0 {
				stay(t, Open(s.Pack()), kept)
			}
		}
		most = max(most, len(kept))
	}
	if most < maxCommits {
		t.Errorf("the walks made no more than %d commits", most)
	}
}
