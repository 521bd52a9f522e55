/- The library's functions on rows of pairs: slices.IndexFunc, Equal, BinarySearchFunc (with cmp.Compare), Grow, Concat, as package leaf calls them. No condition: lemmas. -/
import Derived.Test.YteebceecohhegaaRfG
import Derived.Lib.AppendZerosOnto
namespace Go.Proofs.Yteebceecohhegaa
open Go.RowKit
set_option linter.all false

/-- cmp.Compare on two numbers. -/
def cmpI (a b : Int) : Int := if a < b then -1 else if b < a then 1 else 0

/-- Where a key stands, or would stand: ahead of that place lower ones alone, from it on none. -/
structure Lo (l : List Pr) (k : Int) (m : Nat) : Prop where
  le : m ≤ l.length
  lo : ∀ (i : Nat) (q : Pr), l[i]? = some q → i < m → q.1 < k
  hi : ∀ (i : Nat) (q : Pr), l[i]? = some q → m ≤ i → k ≤ q.1

end Go.Proofs.Yteebceecohhegaa
