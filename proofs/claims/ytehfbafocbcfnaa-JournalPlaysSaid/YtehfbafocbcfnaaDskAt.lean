/- Where a disk lies in memory; its shorter calls. -/
import Derived.Test.YtehfbafocbcfnaaDskIter
import Derived.Test.YtehfbafocbcfnaaDiskC
namespace Go.Proofs.Ytehfbafocbcfnaa
open Go Go.RowKit Go.Maps
set_option linter.unusedVariables false

/-- a disk of n blocks: its struct in block g, what is read in h, the map in m -/
structure DAt (n g h m : Nat) (s : Dsk) (w : World) : Prop where
  r0 : Row g 73 [.slice (some ⟨h, 0, none⟩) (64 * n) (64 * n), .map (some m)] w
  r1 : Row h 5 (s.nw.map b8) w
  mp : ∃ k D, w.ownsMap Try.prog 3 RB m k D ∧ MapIs D n s.st s.di
  ne : g ≠ h ∧ g ≠ m ∧ h ≠ m
  ok : s.di.length = n ∧ s.st.length = 64 * n ∧ s.nw.length = 64 * n ∧ n ≤ 1024
  cl : Clean s.st s.nw s.di n

def foot (g h m : Nat) : Nat → Prop := fun k => k = g ∨ k = h ∨ k = m

def DD (n : Nat) (F : Nat → Prop) (d : Addr) (s : Dsk) (w : World) : Prop := ∃ g h m, d = ⟨g, 0, none⟩ ∧ F = foot g h m ∧ DAt n g h m s w

theorem keyed_int : Keyed Try.prog 3 := int_keyed Try.underlying3

theorem DAt.only {n g h m : Nat} {s : Dsk} {w w' : World} {X : Nat → Prop} (H : DAt n g h m s w) (ho : Only X w w') (hX : ∀ k, X k → ¬ foot g h m k) : DAt n g h m s w' := by
  obtain ⟨k, D, ho1, hm⟩ := H.mp
  exact ⟨H.r0.only ho fun x => hX _ x (Or.inl rfl), H.r1.only ho fun x => hX _ x (Or.inr (Or.inl rfl)), ⟨k, D, ownsMap_only ho1 ho fun x => hX _ x (Or.inr (Or.inr rfl)), hm⟩, H.ne, H.ok, H.cl⟩
theorem DAt.up {n g h m : Nat} {s : Dsk} {w w' : World} (H : DAt n g h m s w) (hb : Below w.heap.size w w') : DAt n g h m s w' :=
  H.only (X := fun _ => False) (Only.of_below hb) fun _ x => x.elim
theorem DAt.lt {n g h m : Nat} {s : Dsk} {w : World} (H : DAt n g h m s w) : g < w.heap.size ∧ h < w.heap.size ∧ m < w.heap.size := by
  obtain ⟨k, D, ho1, hm⟩ := H.mp
  exact ⟨H.r0.lt, H.r1.lt, ho1.lt⟩
theorem DAt.cells {n g h m : Nat} {s : Dsk} {w : World} (H : DAt n g h m s w) : w.cell? ⟨g, 0, none⟩ = some (.slice (some ⟨h, 0, none⟩) (64 * n) (64 * n)) ∧ w.cell? ⟨g, 1, none⟩ = some (.map (some m)) :=
  ⟨H.r0.cell (j := 0) (by simp), H.r0.cell (j := 1) (by simp)⟩

set_option maxHeartbeats 4000000 in
theorem has_any {n g h m : Nat} {s : Dsk} (p l : Int) (w : World) (H : DAt n g h m s w) (hp : i64d p) (hl : i64d l) :
    Calls Try.prog 38 #[.pointer (some ⟨g, 0, none⟩), .int .i64 p, .int .i64 l] w fun e w' => e = .returned (.bool (thereD n p l)) ∧ w' = w := by
  obtain ⟨c0, c1⟩ := H.cells
  have hn := H.ok.2.2.2
  obtain ⟨hp1, hp2⟩ := hp
  obtain ⟨hl1, hl2⟩ := hl
  have HT : Hid (thereD n p l = (decide (0 ≤ p) && decide (0 ≤ l) && decide (p ≤ 64 * (n : Int)) && decide (l ≤ 64 * (n : Int) - p))) := rfl
  clear H
  go_enter Try.func38, Try.ntmps38
  by_cases h1 : 0 ≤ p
  · by_cases h2 : p ≤ 64 * (n : Int)
    · have t1 : IntKind.i64.wrap (64 * (n : Int) - p) = 64 * (n : Int) - p := IntWalk.i64_in _ (by omega)
      by_cases h3 : 0 ≤ l
      · by_cases h4 : l ≤ 64 * (n : Int) - p
        all_goals
          go_wp2_with fail
          go_ret
          refine ⟨?_, rfl⟩
          rw [HT.out]
          simp [h1, h2, h3, h4]
      · go_wp2_with fail
        go_ret
        refine ⟨?_, rfl⟩
        rw [HT.out]
        simp [h1, h2]
        omega
    · go_wp2_with fail
      go_ret
      refine ⟨?_, rfl⟩
      rw [HT.out]
      simp [h1]
      omega
  · go_wp2_with fail
    go_ret
    refine ⟨?_, rfl⟩
    rw [HT.out]
    simp
    omega

set_option maxHeartbeats 4000000 in
theorem size_any {n g h m : Nat} {s : Dsk} (w : World) (H : DAt n g h m s w) :
    Calls Try.prog 34 #[.pointer (some ⟨g, 0, none⟩)] w fun e w' => e = .returned (.int .i64 (64 * (n : Int))) ∧ w' = w := by
  obtain ⟨c0, c1⟩ := H.cells
  clear H
  go_enter Try.func34, Try.ntmps34
  go_wp2_with fail
  go_ret
  exact ⟨by simp, rfl⟩

set_option maxHeartbeats 4000000 in
theorem dirty_any {n g h m : Nat} {s : Dsk} (w : World) (H : DAt n g h m s w) :
    Calls Try.prog 36 #[.pointer (some ⟨g, 0, none⟩)] w fun e w' => e = .returned (.int .i64 (manyN s.di n : Int)) ∧ w' = w := by
  obtain ⟨c0, c1⟩ := H.cells
  obtain ⟨k, D, ho, hm⟩ := H.mp
  have hs := hm.size ho Try.underlying3
  have HO := Lib.hid ho
  clear H hm ho
  go_enter Try.func36, Try.ntmps36
  go_wp2_with (at_len; refine wpList_len_own _ rfl _ 71 rfl 3 87 Try.underlying71 RB _ k D rfl HO.out ?_)
  go_ret
  exact ⟨rfl, rfl⟩

set_option maxHeartbeats 4000000 in
theorem sync_raw {g t k : Nat} {D : DataW (List Nat)} (w : World) (c1 : w.cell? ⟨g, 1, none⟩ = some (.map (some t))) (ho : w.ownsMap Try.prog 3 RB t k D) :
    Calls Try.prog 16 #[.pointer (some ⟨g, 0, none⟩)] w fun e w' => e = .returned (.tuple #[]) ∧ Only (fun k => k = t) w w' ∧ w'.ownsMap Try.prog 3 RB t 0 (.map []) := by
  have HO := Lib.hid ho
  clear ho
  go_enter Try.func16, Try.ntmps16
  go_wp2_with (first | (refine wpList_clear_own rfl _ 71 rfl 3 87 Try.underlying71 RB _ k D rfl HO.out ?_; intro w1 HM HOn))
  go_end0
  exact ⟨rfl, HOn.out, HM.out⟩

theorem none_di (n : Nat) : ∀ b, b < n → ¬ (List.replicate n false).getD b false = true := fun b hb => by simp [List.getD_eq_getElem?_getD, List.getElem?_replicate]; split <;> simp

theorem sync_any {n g h m : Nat} {s : Dsk} (w : World) (H : DAt n g h m s w) :
    Calls Try.prog 16 #[.pointer (some ⟨g, 0, none⟩)] w fun e w' => e = .returned (.tuple #[]) ∧ Only (fun k => k = m) w w' ∧ DAt n g h m s.sync w' := by
  obtain ⟨c0, c1⟩ := H.cells
  obtain ⟨k, D, ho, hm⟩ := H.mp
  refine (sync_raw w c1 ho).mono ?_
  rintro e w1 ⟨rfl, hO, hM⟩
  refine ⟨rfl, hO, ?_⟩
  obtain ⟨q0, q1, q2⟩ := H.ne
  obtain ⟨l1, l2, l3, l4⟩ := H.ok
  exact ⟨H.r0.only hO (fun e => q1 e), H.r1.only hO (fun e => q2 e), ⟨0, _, hM, MapIs.none n _ _ (by rw [show s.sync.di = List.replicate s.di.length false from rfl, l1]; exact none_di n)⟩, H.ne, ⟨by simp [Dsk.sync, l1], l3, l3, l4⟩, Clean.same⟩

set_option maxHeartbeats 8000000 in
theorem read_any {n g h m : Nat} {s : Dsk} (p l : Int) (w : World) (H : DAt n g h m s w) (hp : i64d p) (hl : i64d l) :
    Calls Try.prog 22 #[.pointer (some ⟨g, 0, none⟩), .int .i64 p, .int .i64 l] w fun e w' => Below w.heap.size w w' ∧
      ((thereD n p l = true ∧ ∃ v, e = .returned (.tuple #[v, .nilIface]) ∧ w'.ownsRow w.heap.size 5 1 v l.toNat (((s.nw.drop p.toNat).take l.toNat).map b8)) ∨
        (thereD n p l = false ∧ ∃ a c, e = .returned (.tuple #[.slice a 0 c, errD 1]))) := by
  obtain ⟨c0, c1⟩ := H.cells
  have hh := has_any p l w H hp hl
  have hn := H.ok.2.2.2
  cases ht : thereD n p l with
  | false =>
    rw [ht] at hh
    clear H
    go_enter Try.func22, Try.ntmps22
    go_wp2_with fail
    refine hh.mono ?_
    rintro e w1 ⟨rfl, rfl⟩
    go_wp2_with fail
    go_ret2
    exact ⟨Below.refl _ _, Or.inr ⟨trivial, none, 0, rfl⟩⟩
  | true =>
    rw [ht] at hh
    obtain ⟨a, rfl, b, rfl, hab⟩ : ∃ a : Nat, p = (a : Int) ∧ ∃ b : Nat, l = (b : Int) ∧ a + b ≤ 64 * n := by
      unfold thereD at ht
      simp only [Bool.and_eq_true, decide_eq_true_eq] at ht
      exact ⟨p.toNat, by omega, l.toNat, by omega, by omega⟩
    have t1 : IntKind.i64.wrap ((a : Int) + (b : Int)) = ((a + b : Nat) : Int) := by
      rw [IntWalk.i64_in _ (by omega)]; omega
    obtain ⟨c, hc⟩ : ∃ c, a + b = c := ⟨_, rfl⟩
    rw [hc] at t1
    have t2 : (0 : Int) ≤ (c : Int) := by omega
    have t3 : (c : Int) ≤ 64 * (n : Int) := by omega
    have t4 : ((c : Int)).toNat = c := by omega
    have t5 : (a : Int) ≤ (c : Int) := by omega
    have t6 : c - a = b := by omega
    have t7 : c ≤ 64 * n := by omega
    have t8 : a ≤ c := by omega
    have HHc := Lib.hid hc
    have HH := Lib.hid H
    have hl : ((s.nw.drop a).take b).length = b := by simp [HH.out.ok.2.2.1]; omega
    have HL := Lib.hid hl
    have hcl : ∀ j, j < b → w.cell? ⟨h, a + j, none⟩ = some (b8 (((s.nw.drop a).take b).getD j 0)) := fun j hj => by
      have := HH.out.r1.cell (j := a + j) (by simp [HH.out.ok.2.2.1]; omega)
      rw [this, slice_get _ _ _ _ hj]
      simp [List.getD_eq_getElem?_getD, show a + j < s.nw.length by rw [HH.out.ok.2.2.1]; omega]
    have HC := Lib.hid hcl
    clear hc hl hcl H hab
    by_cases he : 64 * n = a
    · have hb0 : b = 0 := by have := HHc.out; omega
      subst hb0
      go_enter Try.func22, Try.ntmps22
      go_wp2_with fail
      refine hh.mono ?_
      rintro e w1 ⟨rfl, rfl⟩
      go_wp2_with fail
      refine (clone_any h 0 0 0 [] w1 rfl (by omega) (fun j hj => by omega)).mono ?_
      rintro e w2 ⟨v, rfl, ho, hb⟩
      go_wp2_with fail
      go_ret2
      exact ⟨hb, Or.inl ⟨trivial, v, rfl, by simpa using ho⟩⟩
    · go_enter Try.func22, Try.ntmps22
      go_wp2_with fail
      refine hh.mono ?_
      rintro e w1 ⟨rfl, rfl⟩
      go_wp2_with fail
      refine (clone_any h a b (64 * n - a) ((s.nw.drop a).take b) w1 HL.out (by have := HHc.out; omega) HC.out).mono ?_
      rintro e w2 ⟨v, rfl, ho, hb⟩
      go_wp2_with fail
      go_ret2
      exact ⟨hb, Or.inl ⟨trivial, v, rfl, by simpa using ho⟩⟩
end Go.Proofs.Ytehfbafocbcfnaa
