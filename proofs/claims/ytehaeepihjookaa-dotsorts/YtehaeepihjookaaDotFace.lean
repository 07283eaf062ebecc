/-
  Package dot's calls, as the laws' walks want them (dotRight_any, dotLess_any: FnDotI; dotBytes_any, dotTake_any: FnDotL; dotTakeAll_any: FnDotP; and these).
-/
import Derived.Test.YtehaeepihjookaaFnDotO
import Derived.Test.YtehaeepihjookaaFnDotP
import Derived.Test.YtehaeepihjookaaFnDotB
namespace Go.Proofs.Ytehaeepihjookaa
open Go.RowKit NumMath
open DotMath (Dt)
set_option maxRecDepth 100000

theorem dotSort_any (a : Option Addr) (ds : List Dt) (cap : Nat) (w : World) (hr : DRow w a ds) (hc : ds.length ≤ cap) (hm : cap ≤ maxLen) (_ : a = none → cap = 0) (hlim : ds.length ≤ 1000000) :
    Calls Try.prog 13 #[.slice a ds.length cap] w fun e w' => ∃ v, e = .returned v ∧ Dots w' v (DotMath.sort ds) ∧ Below w.heap.size w w' :=
  (dotSort_own a ds cap w hr hc hm (by omega)).mono fun _ _ ⟨v, he, ho, hb⟩ => ⟨v, he, ho.dots, hb⟩
theorem dotPut_any (a : Option Addr) (ds : List Dt) (cap : Nat) (w : World) (hr : DRow w a ds) (hc : ds.length ≤ cap) (hm : cap ≤ maxLen) (_ : ds.length ≤ 1000000) :
    Calls Try.prog 22 #[.slice a ds.length cap] w fun e w' => ∃ v, e = .returned v ∧ Bytes w' v (DotMath.put ds) ∧ Below w.heap.size w w' := dotPut_all a ds cap w hr hc hm
end Go.Proofs.Ytehaeepihjookaa
