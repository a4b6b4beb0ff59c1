package table_test

import (
	"testing"

	"spinet/api"
	"spinet/macro"
	"spinet/micro"
	"spinet/tree"
)

// P14.1: what is entered by default, Kind by Kind.

// defaults are what is entered by default below some states of a chart.
type defaults map[int][]int

func checkDefaults(t *testing.T, s string, want defaults) {
	t.Helper()
	one := made(t, drawn(s))
	for state, of := range want {
		if got := one.Default(state); got != set(of...) {
			t.Errorf("%s: Default(%d) = %v, want %v", s, state, members(got), of)
		}
	}
}

func TestDefaultOfAtomicAndFinal(t *testing.T) {
	checkDefaults(t, "C(A P(A C(F A)) F)", defaults{1: {1}, 3: {3}, 5: {5}, 6: {6}, 7: {7}})
}

// A Compound's Initial is its child: the first one, another one, one that has an
// Initial of its own.

func TestDefaultOfCompound(t *testing.T) {
	checkDefaults(t, "C(C(A A F))", defaults{0: {0, 1, 2}, 1: {1, 2}})
	checkDefaults(t, "C(C3(A A F))", defaults{0: {0, 1, 3}, 1: {1, 3}})
	checkDefaults(t, "C(C4(A A F))", defaults{0: {0, 1, 4}, 1: {1, 4}})
	const three = "C4(C(A A) C6(A C7(A)) F)" // 1 C (2, 3), 4 C (5 A, 6 C (7)), 8
	checkDefaults(t, three, defaults{0: {0, 4, 6, 7}, 1: {1, 2}, 4: {4, 6, 7}, 6: {6, 7}})
}

// It lies deeper, with Compounds between: these are entered, but not what their
// own Initial is.

func TestDefaultOfDeeperInitial(t *testing.T) {
	// 1 C (2 A, 3 C (4, 5)), 6
	checkDefaults(t, "C5(C(A C(A A)) A)", defaults{0: {0, 1, 3, 5}, 1: {1, 2}, 3: {3, 4}})
	checkDefaults(t, "C4(C(A C5(A A)) A)", defaults{0: {0, 1, 3, 4}, 1: {1, 2}, 3: {3, 5}})
	checkDefaults(t, "C2(C5(A C(A A)) A)", defaults{0: {0, 1, 2}, 1: {1, 3, 5}, 3: {3, 4}})
	// The Initial has one of its own, which lies deeper, too.
	checkDefaults(t, "C3(C(A C5(A A)) A)", defaults{0: {0, 1, 3, 5}, 1: {1, 2}, 3: {3, 5}})
	checkDefaults(t, "C1(C4(A C(A A)) A)", defaults{0: {0, 1, 3, 4}, 1: {1, 3, 4}, 3: {3, 4}})
	// 1 C (2 C (3 C (4 C (5, 6), 7), 8), 9), 10
	checkDefaults(t, "C2(C9(C4(C7(C6(A A) A) A) A) A)", defaults{
		0: {0, 1, 2, 3, 4, 6}, 1: {1, 9}, 2: {2, 3, 4, 6}, 3: {3, 7}, 4: {4, 6},
	})
}

// With a Parallel between: what is entered by default below each child that has
// nothing, whichever has the Initial, and wherever that lies.

func TestDefaultThroughAParallel(t *testing.T) {
	for _, one := range []struct {
		first string
		want  []int
	}{
		{"1", []int{0, 1, 2, 3, 5, 6, 8}},
		{"2", []int{0, 1, 2, 3, 5, 6, 8}},
		{"3", []int{0, 1, 2, 3, 5, 6, 8}},
		{"4", []int{0, 1, 2, 4, 5, 6, 8}},
		{"5", []int{0, 1, 2, 3, 5, 6, 8}},
		{"6", []int{0, 1, 2, 3, 5, 6, 8}},
		{"7", []int{0, 1, 2, 3, 5, 7, 8}},
		{"8", []int{0, 1, 2, 3, 5, 6, 8}},
		{"9", []int{0, 9}},
	} {
		// 1 P (2 C (3, 4), 5 C (6, 7), 8), 9
		checkDefaults(t, "C"+one.first+"(P(C(A A) C(A F) A) F)", defaults{0: one.want, 1: {1, 2, 3, 5, 6, 8}, 2: {2, 3}, 5: {5, 6}})
	}
}

// With several between, in each other: 1 C (2 P (3 C (4, 5 P (6 C (7, 8), 9,
// 10 P (11, 12 C (13, 14)))), 15 C (16, 17)), 18).

func TestDefaultThroughParallels(t *testing.T) {
	for first, want := range map[string][]int{
		"2":  {1, 2, 3, 4, 15, 16},
		"3":  {1, 2, 3, 4, 15, 16},
		"5":  {1, 2, 3, 5, 6, 7, 9, 10, 11, 12, 13, 15, 16},
		"6":  {1, 2, 3, 5, 6, 7, 9, 10, 11, 12, 13, 15, 16},
		"8":  {1, 2, 3, 5, 6, 8, 9, 10, 11, 12, 13, 15, 16},
		"9":  {1, 2, 3, 5, 6, 7, 9, 10, 11, 12, 13, 15, 16},
		"10": {1, 2, 3, 5, 6, 7, 9, 10, 11, 12, 13, 15, 16},
		"12": {1, 2, 3, 5, 6, 7, 9, 10, 11, 12, 13, 15, 16},
		"14": {1, 2, 3, 5, 6, 7, 9, 10, 11, 12, 14, 15, 16},
		"15": {1, 2, 3, 4, 15, 16},
		"17": {1, 2, 3, 4, 15, 17},
		"18": {1, 18},
	} {
		const rest = "(P(C(A P(C(A A) A P(A C(A A)))) C(A A)) A))"
		below := defaults{2: {2, 3, 4, 15, 16}, 3: {3, 4}, 5: {5, 6, 7, 9, 10, 11, 12, 13}, 10: {10, 11, 12, 13}, 12: {12, 13}, 15: {15, 16}}
		checkDefaults(t, "C(C"+first+rest, below)
		checkDefaults(t, "C(C"+first+rest, defaults{0: append([]int{0}, want...), 1: want})
		checkDefaults(t, "C"+first+"(C18"+rest, below)
		checkDefaults(t, "C"+first+"(C18"+rest, defaults{0: append([]int{0, 1}, want[1:]...), 1: {1, 18}})
	}
}

// A Parallel between fills its children by what is their own default, which may
// lie deeper, with Parallels between, in its turn.

func TestDefaultOfDefaults(t *testing.T) {
	// 1 P (2 A, 3 C (4, 5 P (6, 7 C (8, 9))), 10 C (11, 12 C (13, 14)))
	const rest = "(P(A C9(A P(A C(A A))) C14(A C(A A))))"
	for _, first := range []string{"1", "2", "3", "9", "10", "14"} {
		checkDefaults(t, "C"+first+rest, defaults{0: {0, 1, 2, 3, 5, 6, 7, 9, 10, 12, 14}})
	}
	checkDefaults(t, "C4"+rest, defaults{0: {0, 1, 2, 3, 4, 10, 12, 14}})
	checkDefaults(t, "C6"+rest, defaults{0: {0, 1, 2, 3, 5, 6, 7, 8, 10, 12, 14}})
	checkDefaults(t, "C11"+rest, defaults{0: {0, 1, 2, 3, 5, 6, 7, 9, 10, 11}})
	checkDefaults(t, "C12"+rest, defaults{0: {0, 1, 2, 3, 5, 6, 7, 9, 10, 12, 13}})
}

// Of a Parallel it is that of each child, and of Parallels in Parallels so on.

func TestDefaultOfParallels(t *testing.T) {
	// 1 P (2 P (3 C (4, 5), 6 A), 7 A, 8 P (9 P (10 C (11, 12)), 13 F's Compound (14)))
	checkDefaults(t, "C(P(P(C5(A A) A) A P(P(C12(A A)) C(F))) A)", defaults{
		0: {0, 1, 2, 3, 5, 6, 7, 8, 9, 10, 12, 13, 14}, 1: {1, 2, 3, 5, 6, 7, 8, 9, 10, 12, 13, 14},
		2: {2, 3, 5, 6}, 3: {3, 5}, 8: {8, 9, 10, 12, 13, 14}, 9: {9, 10, 12}, 13: {13, 14}, 15: {15},
	})
}

// Of a history nothing, whatever its Initial is; and it is in no other's.

func TestDefaultOfHistories(t *testing.T) {
	for first, want := range map[string][]int{
		"1": {0, 1, 3, 4, 8}, "3": {0, 1, 3, 4, 8}, "4": {0, 1, 3, 4, 8}, "5": {0, 1, 3, 5, 8}, "8": {0, 1, 3, 4, 8}, "9": {0, 9},
	} {
		// 1 P (2 S, 3 C (4, 5, 6 D), 7 D, 8), 9
		for _, rest := range []string{"(P(S C(A A D) D A) F)", "(P(S8 C(A A D5) D5 A) F)", "(P(D8 C(A A S5) S3 A) F)"} {
			checkDefaults(t, "C"+first+rest, defaults{0: want, 1: {1, 3, 4, 8}, 2: {}, 3: {3, 4}, 6: {}, 7: {}})
		}
	}
}

// Of the first state it is what is active at first.

func TestDefaultOfTheFirstState(t *testing.T) {
	for _, c := range []api.Chart{
		drawn(smallest), drawn(rich), drawn(chain()), drawn(mixed()), drawn(stairs()), drawn(flat()), drawn(wide()), laden(),
		drawn("C18(A C7(S A C7(A F D) F D) P(C17(A P(A C(A F) S)) D A) F)"), drawn("C(F)"), drawn("C23" + flat()[1:]),
	} {
		where, err := tree.New(c)
		if err != nil {
			t.Fatal(err)
		}
		one := made(t, c)
		if first, _ := micro.First(where); one.Default(0) != first.Conf {
			t.Errorf("Default(0) = %v, at first %v are active", members(one.Default(0)), members(first.Conf))
		}
		if start, _ := macro.Start(where); len(c.Trans) == 0 && one.Default(0) != start.Conf {
			t.Errorf("Default(0) = %v, from the start on %v are active", members(one.Default(0)), members(start.Conf))
		}
	}
}
