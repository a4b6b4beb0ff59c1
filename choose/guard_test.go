package choose

import "testing"

// A Guard is asked of any text, while those of a chart that may be have the type
// Truth. So this asks inside, for those that are numbers, or have no type: each
// is not true, and a mishap.

func TestGuardsOfNoChart(t *testing.T) {
	for _, guard := range []string{
		"1", "0", "a", "b", "a+b", "-1", "1/1", "a and true", "1 or true", "not a", "not 1", "1<true", "a==true", "-true==1",
		"d==d", "a<b<c", "a==", "(", " ", "tru", "a=b", "a==1 )",
	} {
		for _, env := range [][]int64{nil, {1}, {1, 1, 1}, {0, 0, 0}} {
			if ready, mishap := holds(guard, env); ready || !mishap {
				t.Errorf("Guard %q with %v: %v, %v", guard, env, ready, mishap)
			}
		}
	}
	for _, guard := range []string{"", "true", "a==1", "a<b or b<c or true"} {
		if ready, mishap := holds(guard, []int64{1, 1, 1}); !ready || mishap {
			t.Errorf("Guard %q: %v, %v", guard, ready, mishap)
		}
	}
}
