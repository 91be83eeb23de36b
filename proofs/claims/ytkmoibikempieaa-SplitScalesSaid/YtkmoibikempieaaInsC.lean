/- slices' insertion sort, at the places of rests: the library's contract, at this program's numbers. -/
import Derived.Test.YtkmoibikempieaaSymM1
namespace Go.Proofs.Ytkmoibikempieaa
open Go Go.RowKit Go.Sort Go.Lib Go.Shelf
set_option linter.unusedVariables false

def insRen : Go.Shelf.Ren := ⟨fun | 20 => 44 | n => n, fun | 0 => 0 | 3 => 3 | 4 => 4 | 22 => 48 | 24 => 3 | 25 => 64 | n => n, fun | n => n⟩
theorem insLays : Go.Proofs.SlLaysF.n20 Try.prog insRen := {
  mixed := by kernel_rfl
  f20 := ⟨Try.f44.name, by decide, Try.func44.trans (congrArg some (by kernel_rfl))⟩
  t0 := Try.underlying0
  a0 := Try.isAgg0
  z0 := Try.sizeOf0
  v0 := Try.zeroValue0
  t3 := Try.underlying3
  a3 := Try.isAgg3
  z3 := Try.sizeOf3
  v3 := Try.zeroValue3
  t4 := Try.underlying4
  a4 := Try.isAgg4
  z4 := Try.sizeOf4
  v4 := Try.zeroValue4
  t22 := Try.underlying48
  a22 := Try.isAgg48
  z22 := Try.sizeOf48
  v22 := Try.zeroValue48
  a24 := Try.isAgg3
  z24 := Try.sizeOf3
  t25 := Try.underlying64
  a25 := Try.isAgg64
  z25 := Try.sizeOf64
  v25 := Try.zeroValue64 }

theorem CmpC.lays {N : Nat} {cb : Value} {cf : Fin (N + 1) → Fin (N + 1) → Int} {blk off sz : Nat} {w0 : World} (h : CmpC N cb cf blk off sz w0) : CmpLays1 Try.prog 34 #[cb] encP cf blk off sz w0 :=
  CmpReads.lays fun m os dk hs x y => h _ dk hs ⟨m, os, rfl⟩ x y

theorem ins_walk {N : Nat} {tt : Fin (N + 1) → Fin (N + 1) → Prop} {pl : Fin (N + 1) → Nat} {cf : Fin (N + 1) → Fin (N + 1) → Int} (T : Tot (ltOf cf) tt pl) (blk off cap a b : Nat) (cb : Value) (d0 d : Array (Fin (N + 1))) (w0 w : World) (R : Row1 encP w0 blk off d0) (hs : d0.size = d.size) (S : SW encP w0 blk off d w)
    (C : CmpC N cb cf blk off d.size w0) (hab : a ≤ b) (hb : b ≤ d.size) (hp : ∀ p q, a ≤ p → p < q → q < b → pl d[p]! < pl d[q]!) (hsz : d.size ≤ 1000) :
    Calls Try.prog 44 #[.slice (some ⟨blk, off, none⟩) d.size cap, .int .i64 a, .int .i64 b, .func (.func 34) #[] #[cb]] w fun e w' => e = .returned (.tuple #[]) ∧ ∃ d', SW encP w0 blk off d' w' ∧ Mgd tt a b d d' := by
  have eg : ∀ args w, (callFunc 34 args).run Try.prog w = .ok (.enter 34 args) w := enters_of Try.func34 (by kernel_rfl) rfl
  have h := Any.insertionSortCmpFunc_s insLays encP cf 34 #[cb] blk off cap a b d0 d w0 w eg (by rw [hs]; exact C.lays) R hs S hab hb (by omega)
  exact h.mono fun e w' ⟨he, hS⟩ => ⟨he, _, hS, insT T a b d hb hp⟩
end Go.Proofs.Ytkmoibikempieaa
