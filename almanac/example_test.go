package almanac_test

import (
	"fmt"

	"almanac/almanac"
	"almanac/api"
)

func Example() {
	s := almanac.New()
	s.Set("a", "use b; pub let x:int = 1 + y;")
	s.Set("b", "pub let y:int = 41;")
	tree, errno := s.Ask(api.Tree, "a", "")
	fmt.Print(tree, errno, "\n")
	value, errno := s.Ask(api.Value, "a", "x")
	fmt.Println(value, errno)
	found, errno := s.Ask(api.Find, "a", "y")
	fmt.Println(found, errno)
	errno = s.Remove("b")
	fmt.Println(errno)
	report, errno := s.Ask(api.Report, "a", "")
	fmt.Print(report, errno, "\n")
	_, errno = s.Ask(api.Tree, "A", "")
	fmt.Println(errno == api.ErrName)
	// Output:
	// 1:use b
	// 5:pub x:int=(1+y)
	// 0
	// 42 0
	// b 0
	// 0
	// 1:5 unknown
	// 1:16 type
	// 0
	// true
}

func ExampleSession_Ran() {
	s := almanac.New()
	s.Set("a", "let x:int = 1;")
	s.Ask(api.Value, "a", "x")
	fmt.Printf("%q\n", s.Ran())
	s.Set("a", "let x:int = 1; # one")
	s.Ask(api.Value, "a", "x")
	fmt.Printf("%q %d\n", s.Ran(), s.Look().Kept)
	// Output:
	// ["7 a x" "6 a x" "3 a" "2 a"]
	// ["2 a" "3 a"] 4
}
