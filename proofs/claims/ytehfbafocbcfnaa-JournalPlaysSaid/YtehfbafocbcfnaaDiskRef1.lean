/- The contracts of the document's answer of layer 7: how many, whether they are there, writing. -/
import Derived.Test.YtehfbafocbcfnaaOnly
import Derived.Test.YtehfbafocbcfnaaDiskNum
import Derived.RegionTactic
import Derived.BigRegion
namespace Go.Proofs.Ytehfbafocbcfnaa
open Go Go.RowKit
set_option linter.unusedVariables false

theorem Row.byte {g : Nat} {xs : List Nat} {w : World} (h : Row g 5 (xs.map b8) w) {j : Nat} (hj : j < xs.length) : w.cell? ⟨g, j, none⟩ = some (.int .u8 ((xs.getD j 0 : Nat) : Int)) := by
  rw [h.cell (by rw [List.length_map]; exact hj)]
  simp [List.getD, b8, hj]
theorem Row.bit {g : Nat} {xs : List Bool} {w : World} (h : Row g 4 (xs.map Value.bool) w) {j : Nat} (hj : j < xs.length) : w.cell? ⟨g, j, none⟩ = some (.bool (xs.getD j false)) := by
  rw [h.cell (by rw [List.length_map]; exact hj)]
  simp [List.getD, hj]

/-- where a model lies: its struct, what stands, what was written last, which blocks were -/
structure Lies where
  g0 : Nat
  g1 : Nat
  g2 : Nat
  g3 : Nat
def Lies.all (G : Lies) (k : Nat) : Prop := k = G.g0 ∨ k = G.g1 ∨ k = G.g2 ∨ k = G.g3

/-- a model of n blocks -/
structure MAt (n : Nat) (G : Lies) (s : Dsk) (w : World) : Prop where
  ok : s.di.length = n ∧ s.st.length = 64 * n ∧ s.nw.length = 64 * n ∧ n ≤ 1024
  r0 : Row G.g0 51 [.slice (some ⟨G.g1, 0, none⟩) (64 * n) (64 * n), .slice (some ⟨G.g2, 0, none⟩) (64 * n) (64 * n), .slice (some ⟨G.g3, 0, none⟩) n n] w
  r1 : Row G.g1 5 (s.st.map b8) w
  r2 : Row G.g2 5 (s.nw.map b8) w
  r3 : Row G.g3 4 (s.di.map Value.bool) w
  apart : G.g0 ≠ G.g1 ∧ G.g0 ≠ G.g2 ∧ G.g0 ≠ G.g3 ∧ G.g1 ≠ G.g2 ∧ G.g1 ≠ G.g3 ∧ G.g2 ≠ G.g3

theorem MAt.cells {n : Nat} {G : Lies} {s : Dsk} {w : World} (h : MAt n G s w) :
    w.cell? ⟨G.g0, 0, none⟩ = some (.slice (some ⟨G.g1, 0, none⟩) (64 * n) (64 * n)) ∧ w.cell? ⟨G.g0, 1, none⟩ = some (.slice (some ⟨G.g2, 0, none⟩) (64 * n) (64 * n)) ∧ w.cell? ⟨G.g0, 2, none⟩ = some (.slice (some ⟨G.g3, 0, none⟩) n n) :=
  ⟨h.r0.cell (j := 0) (by simp), h.r0.cell (j := 1) (by simp), h.r0.cell (j := 2) (by simp)⟩
theorem MAt.drewN {n : Nat} {G : Lies} {s : Dsk} {w : World} (h : MAt n G s w) (q : Nat) : MAt n G s (w.drewN q) :=
  ⟨h.ok, h.r0.drewN q, h.r1.drewN q, h.r2.drewN q, h.r3.drewN q, h.apart⟩
theorem MAt.only {n : Nat} {G : Lies} {s : Dsk} {w w' : World} {F : Nat → Prop} (h : MAt n G s w) (ho : Only F w w') (hF : ∀ k, F k → ¬ G.all k) : MAt n G s w' :=
  ⟨h.ok, h.r0.only ho fun hf => hF _ hf (.inl rfl), h.r1.only ho fun hf => hF _ hf (.inr (.inl rfl)), h.r2.only ho fun hf => hF _ hf (.inr (.inr (.inl rfl))), h.r3.only ho fun hf => hF _ hf (.inr (.inr (.inr rfl))), h.apart⟩
theorem MAt.up {n : Nat} {G : Lies} {s : Dsk} {w w' : World} (h : MAt n G s w) (hb : Below w.heap.size w w') : MAt n G s w' :=
  h.only (F := fun _ => False) (Only.of_below hb) fun _ hf => hf.elim
theorem MAt.lt {n : Nat} {G : Lies} {s : Dsk} {w : World} (h : MAt n G s w) (k : Nat) (hk : G.all k) : k < w.heap.size := by
  rcases hk with rfl | rfl | rfl | rfl
  · exact h.r0.lt
  · exact h.r1.lt
  · exact h.r2.lt
  · exact h.r3.lt
/-- what stands is written -/
theorem MAt.st {n : Nat} {G : Lies} {s : Dsk} {w : World} (h : MAt n G s w) (j v : Nat) : MAt n G ⟨s.st.set j v, s.nw, s.di⟩ (w.setCell ⟨G.g1, j, none⟩ (b8 v)) :=
  ⟨⟨h.ok.1, by simpa using h.ok.2.1, h.ok.2.2⟩, h.r0.setOther (fun e => h.apart.1 e.symm) _, by have := h.r1.set j (b8 v); rw [← List.map_set] at this; exact this, h.r2.setOther h.apart.2.2.2.1 _, h.r3.setOther h.apart.2.2.2.2.1 _, h.apart⟩
theorem MAt.nw {n : Nat} {G : Lies} {s : Dsk} {w : World} (h : MAt n G s w) (j v : Nat) : MAt n G ⟨s.st, s.nw.set j v, s.di⟩ (w.setCell ⟨G.g2, j, none⟩ (b8 v)) :=
  ⟨⟨h.ok.1, h.ok.2.1, by simpa using h.ok.2.2⟩, h.r0.setOther (fun e => h.apart.2.1 e.symm) _, h.r1.setOther (fun e => h.apart.2.2.2.1 e.symm) _, by have := h.r2.set j (b8 v); rw [← List.map_set] at this; exact this, h.r3.setOther h.apart.2.2.2.2.2 _, h.apart⟩
theorem MAt.di {n : Nat} {G : Lies} {s : Dsk} {w : World} (h : MAt n G s w) (j : Nat) (v : Bool) : MAt n G ⟨s.st, s.nw, s.di.set j v⟩ (w.setCell ⟨G.g3, j, none⟩ (.bool v)) :=
  ⟨⟨by simpa using h.ok.1, h.ok.2.1, h.ok.2.2⟩, h.r0.setOther (fun e => h.apart.2.2.1 e.symm) _, h.r1.setOther (fun e => h.apart.2.2.2.2.1 e.symm) _, h.r2.setOther (fun e => h.apart.2.2.2.2.2 e.symm) _, by have := h.r3.set j (.bool v); rw [← List.map_set] at this; exact this, h.apart⟩

set_option maxHeartbeats 4000000 in
theorem refMany_any (n : Nat) (G : Lies) (s : Dsk) (w : World) (h : MAt n G s w) :
    Calls Try.prog 37 #[.pointer (some ⟨G.g0, 0, none⟩)] w fun e w' => e = .returned (.int .i64 (s.many : Int)) ∧ ∃ q, w' = w.drewN q := by
  obtain ⟨c0, c1, c2⟩ := h.cells
  have hn := h.ok.2.2.2
  have H := Lib.hid h
  have HN := Lib.hid h.ok.1
  clear h
  go_enter Try.func37, Try.ntmps37
  go_wp2_with fail
  go_loopw [3, 4] (fun v i wr => ∃ (j q : Nat), j ≤ n ∧ v = .int .i64 ((manyN s.di j : Nat) : Int) ∧ i = .int .i64 (j : Int) ∧ wr = w.drewN q) (fun _ i _ => n - (RowKit.intOf i).toNat)
  case atStart => exact ⟨0, 0, by omega, rfl, rfl, rfl⟩
  case round =>
    obtain ⟨j, q, hj, rfl, rfl, rfl⟩ := hrel
    obtain ⟨m, hm⟩ : ∃ m, manyN s.di j = m := ⟨_, rfl⟩
    have hle := manyN_le s.di j
    rw [hm] at hle ⊢
    by_cases hlt : j < n
    · have hb := H.out.r3.bit (j := j) (by rw [HN.out]; exact hlt)
      have t6 : (j : Int) < (n : Int) := by omega
      have t7 : (0 : Int) ≤ (j : Int) := by omega
      have HM := Lib.hid hm
      clear hm
      obtain ⟨v, hv⟩ : ∃ v, s.di.getD j false = v := ⟨_, rfl⟩
      rw [hv] at hb
      have HV := Lib.hid hv
      clear hv
      rcases v with _ | _
      all_goals
        go_wp2_with fail
        go_roundw
        case rel => exact ⟨j + 1, _, by omega, by simp only [manyN, HV.out, HM.out]; go_num, by go_num, by first | rfl | exact World.drewN_drewN _ _ _⟩
        case measure => simp [RowKit.intOf]; omega
    · obtain rfl : j = n := by omega
      have hm' : Hid (s.many = m) := by show s.many = m; rw [Dsk.many, HN.out]; exact hm
      clear hm
      go_wp2_with fail
      go_ret
      exact ⟨by rw [hm'.out]; rfl, _, rfl⟩

/-- so many bytes are there from a place on -/
def thereD (n : Nat) (p m : Int) : Bool := decide (0 ≤ p) && decide (0 ≤ m) && decide (p ≤ 64 * (n : Int)) && decide (m ≤ 64 * (n : Int) - p)

end Go.Proofs.Ytehfbafocbcfnaa
