package graft

import "testing"

func TestErrorNumbers(t *testing.T) {
	for i, e := range []Errno{OK, ErrName, ErrPath, ErrText, ErrMany, ErrBranch, ErrKind, ErrBlock, ErrCount, ErrSame, ErrAbsent} {
		if int(e) != i {
			t.Errorf("the %d-th error is %d", i, e)
		}
	}
}

func TestFirstExample(t *testing.T) {
	s := New()
	allowed(t, "Branch", s.Branch("a"))
	allowed(t, "Add", s.Add("a", "x/n", 5))
	shows(t, s, "a", "x/n #5\n")
	refused(t, s, "Note", func() Errno { return s.Note("a", "x", "hi") }, ErrBlock)
	commits(t, s, "a", 1)
	commitsNot(t, s, "a", ErrSame)
}

func TestShowOrdersNameByName(t *testing.T) {
	s := planted(t)
	for _, path := range []string{"b", "ab", "a0/a", "a/b0", "a/b/c/d", "a/b/c0", "az/az/az/az", "0", "a/b/cc/d", "abcdefgh/01234567/ijklmnop/qrstuvwx"} {
		allowed(t, "Note at "+path, s.Note("a", path, ""))
	}
	shows(t, s, "a", "0 =\na/b/c/d =\na/b/c0 =\na/b/cc/d =\na/b0 =\na0/a =\nab =\nabcdefgh/01234567/ijklmnop/qrstuvwx =\naz/az/az/az =\nb =\n")
}

func TestShowWritesEachKind(t *testing.T) {
	s := planted(t)
	allowed(t, "Put", s.Put("a", "s", "q"))
	allowed(t, "Put", s.Put("a", "s", "p r"))
	allowed(t, "Note", s.Note("a", "t/0", "hi, you"))
	allowed(t, "Add", s.Add("a", "n", -12))
	allowed(t, "Add", s.Add("a", "m", 120))
	shows(t, s, "a", "m #120\nn #-12\ns *p r;q\nt/0 =hi, you\n")
}

func TestShowOfNobody(t *testing.T) {
	s := planted(t)
	allowed(t, "Add", s.Add("a", "n", 1))
	for _, name := range append([]string{"b", "aa"}, noNames...) {
		if got, e := s.Show(name); got != "" || e != ErrBranch {
			t.Errorf("Show(%.20q) = %q, %d, want nothing and ErrBranch", name, got, e)
		}
	}
}
