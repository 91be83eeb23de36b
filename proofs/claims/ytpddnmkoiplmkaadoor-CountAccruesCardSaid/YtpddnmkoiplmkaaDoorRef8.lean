/- The long numbers' rounded quotient (trivetref01.Quotient): its variables. -/
import Derived.Test.YtpddnmkoiplmkaaDoorRef7
namespace Go.Proofs.YtpddnmkoiplmkaaDoor
open Go Go.RowKit
set_option linter.unusedVariables false

/-- the variables of Quotient: n, c, the result's, and the quotient rounded down -/
structure QV (W : World) (B T : Nat) (n c q : Int) (a1 : Option Addr) (l1 k1 : Nat) (m1 : Bool) (a2 : Option Addr) (l2 k2 : Nat) (m2 : Bool) (a7 : Option Addr) (l7 k7 : Nat) (m7 : Bool) : Prop where
  v1 : NumVar W B n a1 l1 k1 m1
  v2 : NumVar W (B + 1) c a2 l2 k2 m2
  vr : NumVar W (B + 1 + 1) 0 none 0 0 false
  v7 : NumVar W T q a7 l7 k7 m7
  t : B + 1 + 1 < T

variable {W W' : World} {B T N : Nat} {n c q x : Int} {a a1 a2 a7 : Option Addr} {l k l1 k1 l2 k2 l7 k7 : Nat} {m m1 m2 m7 : Bool}

theorem QV.up (h : QV W B T n c q a1 l1 k1 m1 a2 l2 k2 m2 a7 l7 k7 m7) (hb : Below W.heap.size W W') : QV W' B T n c q a1 l1 k1 m1 a2 l2 k2 m2 a7 l7 k7 m7 :=
  ⟨h.v1.up hb, h.v2.up hb, h.vr.up hb, h.v7.up hb, h.t⟩

theorem QV.al {o : Obj} (h : QV W B T n c q a1 l1 k1 m1 a2 l2 k2 m2 a7 l7 k7 m7) : QV (W.alloc o) B T n c q a1 l1 k1 m1 a2 l2 k2 m2 a7 l7 k7 m7 := h.up ((Below.refl _ _).alloc (Nat.le_refl _) _)

/-- stored into a variable made later -/
theorem QV.other (h : QV W B T n c q a1 l1 k1 m1 a2 l2 k2 m2 a7 l7 k7 m7) (h' : NumVar W N x a l k m) (hT : T < N) (u v : Value) :
    QV ((W.setCell ⟨N, 0, none⟩ u).setCell ⟨N, 1, none⟩ v) B T n c q a1 l1 k1 m1 a2 l2 k2 m2 a7 l7 k7 m7 :=
  ⟨h.v1.other h' (by have := h.t; omega) _ _, h.v2.other h' (by have := h.t; omega) _ _, h.vr.other h' (by have := h.t; omega) _ _, h.v7.other h' (by omega) _ _, h.t⟩

/-- told as the result -/
theorem QV.ret (h : QV W B T n c q a1 l1 k1 m1 a2 l2 k2 m2 a7 l7 k7 m7) (hn : NumAt W (.agg #[.slice a l k, .bool m]) x) :
    NumVar ((W.setCell ⟨B + 1 + 1, 0, none⟩ (.slice a l k)).setCell ⟨B + 1 + 1, 1, none⟩ (.bool m)) (B + 1 + 1) x a l k m := h.vr.put hn
end Go.Proofs.YtpddnmkoiplmkaaDoor
