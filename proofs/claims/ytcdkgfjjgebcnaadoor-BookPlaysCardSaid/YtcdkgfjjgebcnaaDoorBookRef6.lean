/- The document's answer of layer 10: an entry is posted. -/
import Derived.Test.YtcdkgfjjgebcnaaDoorBookMut
import Derived.Test.YtcdkgfjjgebcnaaDoorBookRef3
import Derived.Deep.RegionLaw
namespace Go.Proofs.YtcdkgfjjgebcnaaDoor
open Go Go.RowKit
set_option linter.unusedVariables false

theorem plusK_trans {M : Nat → Prop} {w w1 w2 : World} (h1 : w.heap.size ≤ w1.heap.size) (h2 : w1.heap.size ≤ w2.heap.size) : ∀ k, PlusK (PlusK M w w1) w1 w2 k → PlusK M w w2 k := by
  intro k hk
  rcases hk with (hk | hk) | hk
  · exact Or.inl hk
  · exact Or.inr ⟨hk.1, by omega⟩
  · exact Or.inr ⟨by omega, hk.2⟩
theorem only_plus {M : Nat → Prop} {w w1 w2 : World} (h1 : Only M w w1) (h2 : Only (PlusK M w w1) w1 w2) : Only M w w2 :=
  ⟨h2.os.trans h1.os, h2.tape.trans h1.tape, h2.output.trans h1.output, Nat.le_trans h1.size h2.size, fun k hk hM => (h2.block k (Nat.lt_of_lt_of_le hk h1.size) fun hh => hh.elim hM fun h => by omega).trans (h1.block k hk hM)⟩

set_option maxRecDepth 100000 in
set_option maxHeartbeats 8000000 in
theorem refPost10_any (M : Nat → Prop) (g : Nat) (s : Bk) (a : Option Addr) (n c : Nat) (ls : List Ln) (w : World) (hM : MBook M g s w) (hl : LinesAt w a n ls) (hna : a = none → c = 0) (hL : s.L.length ≤ 4096) (hD : s.done.length ≤ 4096) (hn : n ≤ 1000) :
    Calls Tryd.prog 29 #[.pointer (some ⟨g, 0, none⟩), .slice a n c] w fun e w' => e = .returned (.tuple #[]) ∧ Only M w w' ∧ MBook (PlusK M w w') g (s.post ls) w' := by
  obtain ⟨⟨vL, vD, rows, E, h1, h2, h3, h4, hg, hlb, hdb, heb⟩, h6⟩ := hM
  have hgl := h6 g hg
  have HLT := Lib.hid h6
  have c0 : w.cell? ⟨g, 0, none⟩ = some vL := h1.cell (j := 0) (by simp)
  have f0 : w.frozen? ⟨g, 0, none⟩ = false := h1.frozen 0
  obtain ⟨aL, cL, hvL, q1, q2, q3, -⟩ := own_open h2
  have HOE : Hid (OwnsL w.heap.size (.slice (some ⟨w.heap.size, 0, none⟩) 0 0) [] (w.drew.alloc (Obj.cells #[] 56))) := World.ownsRow_lit w.drew #[] 0 (Nat.le_refl _) (by decide) rfl
  have HLA : Hid (LinesAt (w.drew.alloc (Obj.cells #[] 56)) a n ls) := hl.up ((Below.refl w.heap.size w).drew.alloc (Nat.le_refl _) _)
  have HBA : Hid (∀ w1, (w.drew.alloc (Obj.cells #[] 56)).grownBy w1 (some w.heap.size) → Below w.heap.size w w1) := fun w1 hq => ((Below.refl w.heap.size w).drew.alloc (Nat.le_refl _) _).grown hq (by show w.heap.size ≤ (w.drew.alloc _).heap.size; rw [World.size_alloc]; exact Nat.le_succ _) (fun k hk => by cases hk; exact Nat.le_refl _)
  have HCE : Hid (∀ w1, Below w.heap.size w w1 → w1.cell? ⟨g, 0, none⟩ = some vL ∧ w1.frozen? ⟨g, 0, none⟩ = false) := fun w1 hb => ⟨by rw [hb.cell (p := ⟨g, 0, none⟩) hgl]; exact c0, by rw [hb.frozen (p := ⟨g, 0, none⟩) hgl]; exact f0⟩
  have HCA : Hid (∀ w1, Below w.heap.size w w1 → ∀ o, (w1.alloc o).cell? ⟨g, 0, none⟩ = some vL) := fun w1 hb o => by
    have hs := hb.size
    have e : (w1.alloc o).heap[g]? = w.heap[g]? := by rw [Below.heap_alloc _ _ _ (by omega), hb.block g hgl]
    exact (World.cell?_of_block (a := ⟨g, 0, none⟩) e).trans c0
  have ca1 : ∀ o, (w.drew.alloc o).cell? ⟨g, 0, none⟩ = some vL := HCA.out w.drew (Below.refl _ _).drew
  have HOL : Hid (∀ w1, Below w.heap.size w w1 → w1.ownsRow 0 35 1 vL s.L.length rows) := fun w1 hb => ownsRow_upW h2 fun k hk => hb.block k (h2.lt k hk).2
  have HCG : Hid (∀ w1 w2 o, Below w.heap.size w w1 → (w1.alloc o).grownBy w2 vL.ownBlock → w2.cell? ⟨g, 0, none⟩ = some vL ∧ w2.frozen? ⟨g, 0, none⟩ = false) := fun w1 w2 o hb hq => by
    have hs := hb.size
    have e : w2.heap[g]? = w.heap[g]? := by
      rw [hq.block g (by rw [World.size_alloc]; omega) (fun e => (hlb g e.symm).2.1 rfl), Below.heap_alloc _ _ _ (by omega), hb.block g hgl]
    exact ⟨(World.cell?_of_block (a := ⟨g, 0, none⟩) e).trans c0, (World.frozen?_of_block (a := ⟨g, 0, none⟩) e).trans f0⟩
  have HLN := Lib.hid hl.1
  have HNA := Lib.hid hna
  have HROW := Lib.hid (fun w1 w2 (v1 v2 : Value) (a4 : Option Addr) (c4 : Nat) (o : Obj) (hb1 : Below w.heap.size w w1) (hv1 : v1 = .slice a4 ls.length c4) (o1 : OwnsL w.heap.size v1 ls w1) (hr2 : w2.ownsRow 0 35 1 v2 (s.L.length + 1) (rows ++ [v1])) (q2 : (w1.alloc o).grownBy w2 vL.ownBlock) (l2 : v2.ownBlock = vL.ownBlock ∨ v2.ownBlock = some (w1.alloc o).heap.size) =>
    mbook_row h1 h2 h3 h4 hg hlb hdb heb h6 hb1 hv1 o1 hr2 q2 l2)
  have hML : Hid (s.L.length + 1 ≤ maxLen) := by show _ ≤ _; simp only [maxLen]; omega
  have hMB : Hid ((s.L.length + 1) * 24 ≤ 140737488355328) := by show _ ≤ _; omega
  have HSD := Lib.hid hD
  subst hvL
  go_enter Tryd.func29, Tryd.ntmps29
  clear h1 h2 h3 h4 hg hlb hdb heb h6 hl hna
  go_wp2_with fail
  go_region_law (first
    | (refine step_append_ln rfl (.tmp 9) (.tmp 10) rfl w.heap.size _ [] (by simp [Act.eval]) HOE.out a n c ls (by simp [Act.eval]) HNA.out HLA.out (by simp; omega) (by simp) ?_
       intro v1 w1 o1 q1' r1 l1
       rw [List.nil_append] at o1
       have hb1 := HBA.out w1 q1'
       have HB1 := Lib.hid hb1
       have HO1 := Lib.hid o1
       obtain ⟨a4, c4, rfl, -, -, -, -, -, -⟩ := o1.open
       obtain ⟨cc0, ff0⟩ := HCE.out w1 hb1
       have ca0 := HCA.out w1 hb1
       have HOLw := Lib.hid (HOL.out w1 hb1)
       clear o1 q1' r1 l1 hb1)
    | (refine step_append_cells rfl (.tmp 8) (.tmp 12) 30 rfl 0 Trow _ s.L.length rows (by simp [Act.eval]) (HOLw.out.alloc _) _ 1 1 [.slice a4 ls.length c4] (by simp [Act.eval]) (fun h => by cases h) (one_new _ _ _) (fun u hu => by simp only [List.mem_singleton] at hu; subst hu; rfl) hML.out hMB.out (Nat.zero_le _) ?_
       intro v2 w2 o2 q2' r2 l2
       obtain ⟨ag2, cg2, rfl, -, -, -, -⟩ := own_open o2
       obtain ⟨cg0, fg0⟩ := HCG.out _ _ _ HB1.out q2'
       have HM2 := Lib.hid (HROW.out _ _ _ _ _ _ _ HB1.out rfl HO1.out o2 q2' l2)
       clear o2 r2))
  all_goals
    clear HB1 HO1 HOLw cc0 ff0 ca0 cg0 fg0 l2 q2'
    generalize w2.setCell ⟨g, 0, none⟩ (.slice ag2 (s.L.length + 1) cg2) = w3 at HM2 ⊢
    obtain ⟨⟨vL, vD', rows', E', d1, d2, d3, d4, eg, el, ed, ee⟩, e6⟩ := HM2.out.1
    have hgl3 := e6 g eg
    have c1 : w3.cell? ⟨g, 1, none⟩ = some vD' := d1.cell (j := 1) (by simp)
    have f1 : w3.frozen? ⟨g, 1, none⟩ = false := d1.frozen 1
    obtain ⟨aD, cD, hvD, p1, p2, p3, -⟩ := own_open d3
    have HOD : Hid (w3.ownsRow 0 4 1 vD' s.done.length (s.done.map Value.bool)) := d3
    have HDG : Hid (∀ w4 o, (w3.alloc o).grownBy w4 vD'.ownBlock → w4.cell? ⟨g, 1, none⟩ = some vD' ∧ w4.frozen? ⟨g, 1, none⟩ = false) := fun w4 o hq => by
      have e : w4.heap[g]? = w3.heap[g]? := by
        rw [hq.block g (by rw [World.size_alloc]; exact Nat.lt_succ_of_lt hgl3) (fun e => (ed g e.symm).2 rfl), Below.heap_alloc w3 o g hgl3]
      exact ⟨(World.cell?_of_block (a := ⟨g, 1, none⟩) e).trans c1, (World.frozen?_of_block (a := ⟨g, 1, none⟩) e).trans f1⟩
    have cb1 : ∀ o, (w3.alloc o).cell? ⟨g, 1, none⟩ = some vD' := fun o => by
      have e : (w3.alloc o).heap[g]? = w3.heap[g]? := by rw [Below.heap_alloc w3 o g hgl3]
      exact (World.cell?_of_block (a := ⟨g, 1, none⟩) e).trans c1
    have HDONE := Lib.hid (fun w4 (v2 : Value) (o : Obj) (hr2 : w4.ownsRow 0 4 1 v2 (s.done.length + 1) (s.done.map Value.bool ++ [.bool false])) (q2 : (w3.alloc o).grownBy w4 vD'.ownBlock) (l2 : v2.ownBlock = vD'.ownBlock ∨ v2.ownBlock = some (w3.alloc o).heap.size) =>
      mbook_done (s := ⟨s.L ++ [ls], s.done⟩) d1 d2 d3 d4 eg el ed ee e6 (Below.refl w3.heap.size w3) hr2 q2 l2)
    have hML2 : Hid (s.done.length + 1 ≤ maxLen) := by show _ ≤ _; simp only [maxLen]; omega
    have hMB2 : Hid ((s.done.length + 1) * 1 ≤ 140737488355328) := by show _ ≤ _; omega
    have HO2 := Lib.hid HM2.out.2
    have HSZ := Lib.hid HM2.out.2.size
    subst hvD
    clear d1 d2 d3 d4 eg el ed ee e6 HM2
    go_wp2_with (at_builtin; refine wpList_append_cells rfl (.tmp 20) (.tmp 21) 31 rfl 0 Tbool _ s.done.length (s.done.map Value.bool) rfl (HOD.out.alloc _) _ 1 1 [.bool false] rfl (fun h => by cases h) (one_new _ _ _) (fun u hu => by simp only [List.mem_singleton] at hu; subst hu; rfl) hML2.out hMB2.out (Nat.zero_le _) ?_; intro v4 w4 o4 q4 r4 l4; obtain ⟨ag4, cg4, rfl, -, -, -, -⟩ := own_open o4; obtain ⟨cg1, fg1⟩ := HDG.out _ _ q4; have HM4 := Lib.hid (HDONE.out _ _ _ o4 q4 l4); clear o4 r4)
    all_goals
      go_end0
      refine ⟨rfl, only_plus HO2.out HM4.out.2, ?_⟩
      exact HM4.out.1.mono (plusK_trans HSZ.out HM4.out.2.size) (fun k hk => hk.elim (fun hm => Nat.lt_of_lt_of_le (HLT.out k hm) (Nat.le_trans HSZ.out HM4.out.2.size)) fun h => h.2)
end Go.Proofs.YtcdkgfjjgebcnaaDoor
