package engine_test

import (
	"slices"
	"testing"

	"spinet/api"
)

// P15.1: sets of histories of which layer 8 says something, and that no session has
// left: of several children of a Compound, of some of a Parallel's, of leaves of a
// Parallel's one child, or of several in one, and of histories.

func TestSetsThatNoSessionLeft(t *testing.T) {
	one := pastTwin(t)
	out := standing(one, set(0, 1))
	for _, row := range []struct {
		s     session
		event int
		conf  []int
		logs  []int64
	}{
		{out.keeps(7, 3, 4), toShallow2, []int{0, 2, 3, 4, 5}, []int64{201, 302, 102, 103, 104, 105}},
		{out.keeps(8, 3, 5), toDeep2, []int{0, 2, 3, 4, 5}, []int64{201, 303, 102, 103, 104, 105}},
		{out.keeps(8, 5, 6), toDeep2, []int{0, 2, 4, 5, 6}, []int64{201, 303, 102, 104, 105, 106}},
		{out.keeps(18, 10), toShallow9, []int{0, 9, 10, 11, 13, 14}, []int64{201, 304, 109, 110, 111, 113, 114}},
		{out.keeps(18, 13), toShallow9, []int{0, 9, 10, 11, 13, 14}, []int64{201, 304, 109, 110, 111, 113, 114}},
		{out.keeps(19, 12), toDeep9, []int{0, 9, 10, 12, 13, 14}, []int64{201, 305, 109, 110, 112, 113, 114}},
		{out.keeps(19, 17), toDeep9, []int{0, 9, 10, 11, 13, 15, 17}, []int64{201, 305, 109, 110, 111, 113, 115, 117}},
		{out.keeps(19, 11, 12), toDeep9, []int{0, 9, 10, 11, 12, 13, 14}, []int64{201, 305, 109, 110, 111, 112, 113, 114}},
		{out.keeps(19, 14, 16, 17), toDeep9, []int{0, 9, 10, 11, 13, 14, 15, 16, 17}, []int64{201, 305, 109, 110, 111, 113, 114, 115, 116, 117}},
		{out.keeps(7, 7), toShallow2, []int{0, 2}, []int64{201, 302, 102}},
		{out.keeps(7, 8), toShallow2, []int{0, 2, 3}, []int64{201, 302, 102, 103}},
		{out.keeps(7, 8).keeps(8, 6), toShallow2, []int{0, 2, 4, 6}, []int64{201, 302, 102, 104, 106}},
		{out.keeps(7, 4, 8).keeps(8, 6), toShallow2, []int{0, 2, 4, 5, 6}, []int64{201, 302, 102, 104, 105, 106}},
		{out.keeps(18, 19).keeps(19, 12), toShallow9, []int{0, 9, 10, 12, 13, 14}, []int64{201, 304, 109, 110, 112, 113, 114}},
		{out.keeps(18, 18), toShallow9, []int{0, 9, 10, 11, 13, 14}, []int64{201, 304, 109, 110, 111, 113, 114}},
	} {
		want := row.s.at(row.conf...).logs(row.logs...)
		checkTake(t, one, row.s, row.event, want)
	}
}

// A child that has something already, as a history that stands ahead of it in a set
// stands for what is in it: a Compound gets what it has by default besides, and a
// Parallel just what is missing.

func TestChildThatHasSomethingAlready(t *testing.T) {
	// 2 C (3 D, 4 S, 5 C (6, 7), 8 P (9 C (10, 11), 12 C (13, 14)), 15)
	one := loudly(t, "C(A C(D S C(A F) P(C(A A) C(A A)) A))", on(7, 1, 4))
	out := standing(one, set(0, 1))
	for _, row := range []struct{ shallow, deep, conf []int }{
		{[]int{3, 5}, []int{7}, []int{0, 2, 5, 6, 7}},
		{[]int{3, 5}, []int{6}, []int{0, 2, 5, 6}},
		{[]int{5}, []int{7}, []int{0, 2, 5, 6}},
		{[]int{3}, []int{7}, []int{0, 2, 5, 7}},
		{[]int{3, 8}, []int{11}, []int{0, 2, 8, 9, 11, 12, 13}},
		{[]int{3, 8}, []int{14}, []int{0, 2, 8, 9, 10, 12, 14}},
		{[]int{3, 8}, []int{7}, []int{0, 2, 5, 7, 8, 9, 10, 12, 13}},
		{[]int{3, 5, 8, 15}, []int{7, 14}, []int{0, 2, 5, 6, 7, 8, 9, 10, 12, 14, 15}},
	} {
		s := out.keeps(4, row.shallow...).keeps(3, row.deep...)
		want := s.at(row.conf...).logs(201, 300)
		for _, k := range row.conf[1:] {
			want = want.logs(int64(100 + k))
		}
		checkTake(t, one, s, 7, want)
	}
	// Its Initial is deeper than a child: 5 C, 9 first (6 P (7 C (8, 9), 10 C (11, 12)), 13)
	deep := loudly(t, "C(A C(D S C9(P(C(A A) C(A A)) A)))", on(7, 1, 4))
	s := standing(deep, set(0, 1)).keeps(4, 3, 5).keeps(3, 13)
	checkTake(t, deep, s, 7, s.at(0, 2, 5, 6, 7, 9, 10, 11, 13).logs(201, 300, 102, 105, 106, 107, 109, 110, 111, 113))
	s = s.keeps(3, 12)
	checkTake(t, deep, s, 7, s.at(0, 2, 5, 6, 7, 8, 9, 10, 12).logs(201, 300, 102, 105, 106, 107, 108, 109, 110, 112))
}

// Of a Parallel's children by several Targets: what has something gets no more, be
// it ahead of the others, among them, or behind them.

func TestRegionThatHasSomethingAlready(t *testing.T) {
	const three = "C(A P(C(A A) C(A A) C(A A)))" // 2 P; 3 C (4, 5), 6 C (7, 8), 9 C (10, 11)
	for _, row := range []struct{ targets, leaves []int }{
		{[]int{2}, []int{4, 7, 10}}, {[]int{5}, []int{5, 7, 10}}, {[]int{8}, []int{4, 8, 10}}, {[]int{11}, []int{4, 7, 11}},
		{[]int{11, 5}, []int{5, 7, 11}}, {[]int{8, 11}, []int{4, 8, 11}}, {[]int{8, 5}, []int{5, 8, 10}}, {[]int{11, 5, 8}, []int{5, 8, 11}},
		{[]int{3, 8}, []int{4, 8, 10}}, {[]int{8, 3}, []int{4, 8, 10}}, {[]int{9, 6, 5}, []int{5, 7, 10}},
	} {
		one := loudly(t, three, on(7, 1, row.targets...))
		conf := slices.Concat([]int{0, 2, 3, 6, 9}, row.leaves)
		want := standing(one, set(conf...)).logs(201, 300)
		for _, k := range members(set(conf[1:]...)) {
			want = want.logs(int64(100 + k))
		}
		checkTake(t, one, standing(one, set(0, 1)), 7, want)
	}
}

// All sets of two histories at once, of which layer 8 says something, one of them
// the Target.

func TestAllSetsOfTwo(t *testing.T) {
	for _, s := range []string{
		"C(A C(D S C(A F) P(C(A A) A)))", "C(A P(S D C(A A) C(A C(A A))))", "C(A C(C(A A) S P(C(A A) C(A A)) D))", "C(A C(S S C9(P(C(A A) A) A)))",
		"C(A C(S C(A F) S A))", "C(A P(C(A D A) S C(A A)))",
	} {
		r := reading{drawn(s)}
		var both []int
		for k, one := range r.States {
			if isHistory(one.Kind) {
				both = append(both, k)
			}
		}
		r.Trans = []api.Trans{on(7, 1, both[0]), on(8, 1, both[1])}
		one := made(t, loud(r.again()))
		a, b := r.mayKeep(both[0]), r.mayKeep(both[1])
		for of := a; ; of = (of - 1) & a {
			for other := b; ; other = (other - 1) & b {
				run := standing(one, set(0, 1)).keeps(both[0], members(of)...).keeps(both[1], members(other)...).Run
				checkTakeByWalk(t, one, r, run, 7)
				checkTakeByWalk(t, one, r, run, 8)
				if other == 0 {
					break
				}
			}
			if of == 0 {
				break
			}
		}
	}
}
