import Derived.Test.YtcjdodkbnhkbiaaMAL
import Derived.Test.YtcjdodkbnhkbiaaWR8d
namespace Go.Proofs.Ytcjdodkbnhkbiaa
open Go.ChangeShapes Go.WideShapes Go.ChangeAt Go.RowKit
set_option linter.unusedVariables false
set_option linter.unusedSimpArgs false

/-! What is asked of the landed inquiry. -/
abbrev In64 (x : Int) : Prop := -9223372036854775808 ≤ x ∧ x ≤ 9223372036854775807
def OkC7 (c : Cmd) : Prop := In64 c.1 ∧ c.2.1 ≤ 18446744073709551615 ∧ In64 c.2.2.1 ∧ In64 c.2.2.2.1 ∧ In64 c.2.2.2.2
def ICut7 : Prop := ∀ (v : Value) (l : List UInt8) (n : Int) (w : World), Bs w v l → l.length ≤ 1000000 → In64 n → Calls Try.prog 19 #[v, .int .i64 n] w fun e w' => ∃ v, e = .returned v ∧ Later w w' ∧ Bs w' v (cutL l n)
end Go.Proofs.Ytcjdodkbnhkbiaa

namespace Go.Proofs.Ytcjdodkbnhkbiaa
open Go.ChangeShapes Go.WideShapes Go.ChangeAt Go.RowKit
set_option linter.unusedVariables false
set_option linter.unusedSimpArgs false

/-! What is asked of the landed mode. -/
def IPage8 : Prop := ∀ (page which : Int) (caching : Bool), In64 page → In64 which → MPag 11 page which caching
def IAns8 : Prop := ∀ (c : Cmd) (caching protect : Bool) (w : World), OkC7 c → Calls Try.prog 9 #[cval c, .bool caching, .bool protect] w fun e w' => ∃ v, e = .returned (.tuple #[v, sval (mansR c caching protect).2]) ∧ Later w w' ∧ Bs w' v (mansR c caching protect).1
def ISel8 : Prop := ∀ (v : Value) (l : List UInt8) (ten caching : Bool) (w : World), Bs w v l → l.length ≤ 1000000 → Calls Try.prog 13 #[v, .bool ten, .bool caching] w fun e w' => e = .returned (.tuple #[.bool (selR l ten caching).1, sval (selR l ten caching).2]) ∧ Later w w'
def Alive8 : Prop := ∀ w : World, Calls Try.prog 8 #[] w fun e w' => e = .returned (.bool true) ∧ Later w w'
theorem wpList_eqS8 {w : World} {ops : Array Oper} {rest : List Oper} {o : Oper} {a : Act} {Q : Exit → Act → World → Prop} (hw : Region.wanted o (yielded ops a.tmps) = true) (x y : Operand) (hop : o.op = .binOp .eql 28 x y 28)
    (s t : Sns) (hx : a.eval x = sval s) (hy : a.eval y = sval t) (r : Bool) (hr : (s == t) = r) (h : wpList Try.prog ops Q rest (a.put o.dst (.bool r)) w) : wpList Try.prog ops Q (o :: rest) a w := by
  subst hr
  exact wpList_eqS hw x y hop s t hx hy h
end Go.Proofs.Ytcjdodkbnhkbiaa
