/- What is asked of package journal's calls; a disk and its journal as the laws hold them; the example at the head of layer 8's statements. -/
import Derived.Test.YtehfbafocbcfnaaJrnRef5
import Derived.Test.YtehfbafocbcfnaaJrnGood
import Derived.Test.YtehfbafocbcfnaaDiskUp
namespace Go.Proofs.Ytehfbafocbcfnaa
open Go Go.RowKit
set_option linter.unusedVariables false

/-- J n E j d r w: at j lies a journal over the disk at d, of n blocks, its memory in the blocks of E, that is as r says -/
structure JrnC (D : Nat → (Nat → Prop) → Addr → Dsk → World → Prop) (J : Nat → (Nat → Prop) → Addr → Addr → Jr → World → Prop) : Prop where
  lt : ∀ {n E j d r w}, J n E j d r w → ∀ k, E k → k < w.heap.size
  keep : ∀ {n E j d r w w'} {X : Nat → Prop}, J n E j d r w → Only X w w' → (∀ k, X k → ¬ E k) → J n E j d r w'
  open0 : ∀ (w : World), Calls Try.prog 17 #[.pointer none] w fun e w' => Below w.heap.size w w' ∧ e = .returned (.tuple #[.pointer none, errD 1])
  opens : ∀ {n F d s w}, D n F d s w → s.byt → Calls Try.prog 17 #[.pointer (some d)] w fun e w' => Only F w w' ∧ ∃ F' E j, (∀ k, F' k → F k ∨ w.heap.size ≤ k) ∧ (∀ k, E k → w.heap.size ≤ k) ∧ (∀ k, E k → ¬ F' k) ∧
    e = .returned (.tuple #[.pointer (some j), .nilIface]) ∧ D n F' d (openS s) w' ∧ J n E j d (openR s) w'
  append : ∀ {n F E j d s r w} (a : Option Addr) (m c : Nat) (b : List Nat), D n F d s w → J n E j d r w → (∀ k, E k → ¬ F k) → Cells w a m (b.map b8) → (∀ x ∈ b, x < 256) → Far2 F E a m → m ≤ c → c ≤ maxLen →
    Calls Try.prog 25 #[.pointer (some j), .slice a m c] w fun e w' => Only (fun i => F i ∨ E i) w w' ∧ ∃ F' E', (∀ k, F' k → F k ∨ w.heap.size ≤ k) ∧ (∀ k, E' k → E k ∨ w.heap.size ≤ k) ∧ (∀ k, E' k → ¬ F' k) ∧
      e = .returned (errv (mayN n r b : Int)) ∧ ((mayN n r b = 0 ∧ D n F' d (stgS s r b 4) w' ∧ J n E' j d (stgR r b 4) w') ∨ (mayN n r b ≠ 0 ∧ D n F' d s w' ∧ J n E' j d r w'))
  start : ∀ {n F E j d s r w} (a : Option Addr) (m c : Nat) (b : List Nat) (k : Int), i64d k → D n F d s w → J n E j d r w → (∀ k, E k → ¬ F k) → Cells w a m (b.map b8) → (∀ x ∈ b, x < 256) → Far2 F E a m → m ≤ c → c ≤ maxLen →
    Calls Try.prog 26 #[.pointer (some j), .slice a m c, .int .i64 k] w fun e w' => Only (fun i => F i ∨ E i) w w' ∧ ∃ F' E', (∀ k, F' k → F k ∨ w.heap.size ≤ k) ∧ (∀ k, E' k → E k ∨ w.heap.size ≤ k) ∧ (∀ k, E' k → ¬ F' k) ∧
      e = .returned (errv (startN n r b k : Int)) ∧ ((startN n r b k = 0 ∧ D n F' d (stgS s r b k) w' ∧ J n E' j d (stgR r b k) w') ∨ (startN n r b k ≠ 0 ∧ D n F' d s w' ∧ J n E' j d r w'))
  free : ∀ {n F E j d s r w}, D n F d s w → J n E j d r w → Calls Try.prog 28 #[.pointer (some j)] w fun e w' => Below w.heap.size w w' ∧ e = .returned (.int .i64 (freeN n r : Int))
  records : ∀ {n E j d r w}, J n E j d r w → Calls Try.prog 24 #[.pointer (some j)] w fun e w' => Below w.heap.size w w' ∧ ∃ v, e = .returned v ∧ OwnRecs w.heap.size v r.recs w'

section
variable {D : Nat → (Nat → Prop) → Addr → Dsk → World → Prop} {J : Nat → (Nat → Prop) → Addr → Addr → Jr → World → Prop} {n : Nat} {d j : Addr} {s : Dsk} {r : Jr} {w W W' : World}

/-- a disk, all of whose memory is new to w -/
structure DHold (D : Nat → (Nat → Prop) → Addr → Dsk → World → Prop) (n : Nat) (d : Addr) (s : Dsk) (w W : World) : Prop where
  at' : ∃ F, D n F d s W ∧ ∀ k, F k → w.heap.size ≤ k
  below : Below w.heap.size w W
/-- a disk and its journal -/
structure JHold (D : Nat → (Nat → Prop) → Addr → Dsk → World → Prop) (J : Nat → (Nat → Prop) → Addr → Addr → Jr → World → Prop) (n : Nat) (d j : Addr) (s : Dsk) (r : Jr) (w W : World) : Prop where
  at' : ∃ F E, D n F d s W ∧ J n E j d r W ∧ (∀ k, F k → w.heap.size ≤ k) ∧ (∀ k, E k → w.heap.size ≤ k) ∧ ∀ k, E k → ¬ F k
  below : Below w.heap.size w W

theorem JHold.disk (h : JHold D J n d j s r w W) : DHold D n d s w W := by
  obtain ⟨⟨F, E, h1, h2, h3, h4, h5⟩, h6⟩ := h
  exact ⟨⟨F, h1, h3⟩, h6⟩
theorem DHold.up (DC : DiskC D) (h : DHold D n d s w W) (hb : Below W.heap.size W W') : DHold D n d s w W' := by
  obtain ⟨⟨F, h1, h2⟩, h3⟩ := h
  exact ⟨⟨F, DC.up h1 hb, h2⟩, h3.trans (hb.mono h3.size)⟩
theorem JrnC.up (JC : JrnC D J) {E : Nat → Prop} (h : J n E j d r W) (hb : Below W.heap.size W W') : J n E j d r W' :=
  JC.keep (X := fun _ => False) h (Only.of_below hb) fun _ hf => hf.elim
theorem JHold.up (DC : DiskC D) (JC : JrnC D J) (h : JHold D J n d j s r w W) (hb : Below W.heap.size W W') : JHold D J n d j s r w W' := by
  obtain ⟨⟨F, E, h1, h2, h3, h4, h5⟩, h6⟩ := h
  exact ⟨⟨F, E, DC.up h1 hb, JC.up h2 hb, h3, h4, h5⟩, h6.trans (hb.mono h6.size)⟩

theorem far2_old {a : Option Addr} {m : Nat} {vs : List Value} {F E : Nat → Prop} (hb : Cells w a m vs) (hF : ∀ k, F k → w.heap.size ≤ k) (hE : ∀ k, E k → w.heap.size ≤ k) : Far2 F E a m := fun x hx => by
  rcases hb.2 with h0 | ⟨b, off, e, hcc⟩
  · exact Or.inl h0
  · by_cases h0 : m = 0
    · exact Or.inl h0
    · rw [hx] at e
      cases e
      have := cell_lt (hcc 0 (by omega))
      simp at this
      exact Or.inr ⟨fun hf => by have := hF _ hf; simp at this; omega, fun hf => by have := hE _ hf; simp at this; omega⟩

theorem DHold.open' (JC : JrnC D J) (h : DHold D n d s w W) (hs : s.byt) :
    Calls Try.prog 17 #[.pointer (some d)] W fun e w' => ∃ j, e = .returned (.tuple #[.pointer (some j), .nilIface]) ∧ JHold D J n d j (openS s) (openR s) w w' := by
  obtain ⟨⟨F, h1, h2⟩, h3⟩ := h
  refine (JC.opens h1 hs).mono ?_
  rintro e w' ⟨ho, F', E, j, hF', hE, hd, rfl, q1, q2⟩
  exact ⟨j, rfl, ⟨F', E, q1, q2, fun k hk => (hF' k hk).elim (h2 k) fun h' => Nat.le_trans h3.size h', fun k hk => Nat.le_trans h3.size (hE k hk), hd⟩, h3.trans (ho.below h3.size h2)⟩
theorem DHold.crash (DC : DiskC D) (h : DHold D n d s w W) (a : Option Addr) (m c : Nat) (picks : List Int) (hb : Elems w a m picks) (hc : m ≤ c) (hm2 : m ≤ 2000) :
    Calls Try.prog 27 #[.pointer (some d), .slice a m c] W fun e w' => e = .returned (.tuple #[]) ∧ DHold D n d (s.crash picks) w w' := by
  obtain ⟨⟨F, h1, h2⟩, h3⟩ := h
  have hE : Elems W a m picks := by
    refine ⟨hb.1, hb.2.1, ?_⟩
    rcases hb.2.2 with h0 | ⟨b, off, e, hcc⟩
    · exact Or.inl h0
    · by_cases h0 : m = 0
      · exact Or.inl h0
      · exact Or.inr ⟨b, off, e, fun j hj => by rw [h3.cell (p := ⟨b, off + j, none⟩) (cell_lt (hcc j hj))]; exact hcc j hj⟩
  refine (DC.crash a m c picks h1 hE (fun x hx => ?_) hc hm2).mono ?_
  · rcases hb.2.2 with h0 | ⟨b, off, e, hcc⟩
    · exact Or.inl h0
    · by_cases h0 : m = 0
      · exact Or.inl h0
      · refine Or.inr fun hf => ?_
        rw [hx] at e
        cases e
        have := cell_lt (hcc 0 (by omega))
        have := h2 _ hf
        simp at *
        omega
  · rintro e w' ⟨ho, F', hF', rfl, hd⟩
    exact ⟨rfl, ⟨F', hd, fun k hk => (hF' k hk).elim (h2 k) fun h' => Nat.le_trans h3.size h'⟩, h3.trans (ho.below h3.size h2)⟩

theorem JHold.append (JC : JrnC D J) (h : JHold D J n d j s r w W) (a : Option Addr) (m c : Nat) (b : List Nat) (hb : Cells w a m (b.map b8)) (h256 : ∀ x ∈ b, x < 256) (hc : m ≤ c) (hm : c ≤ maxLen) :
    Calls Try.prog 25 #[.pointer (some j), .slice a m c] W fun e w' => ∃ s' r', e = .returned (errv (mayN n r b : Int)) ∧ JHold D J n d j s' r' w w' ∧
      ((mayN n r b = 0 ∧ s' = stgS s r b 4 ∧ r' = stgR r b 4) ∨ (mayN n r b ≠ 0 ∧ s' = s ∧ r' = r)) := by
  obtain ⟨⟨F, E, h1, h2, h3, h4, h5⟩, h6⟩ := h
  refine (JC.append a m c b h1 h2 h5 (hb.upB h6) h256 (far2_old hb h3 h4) hc hm).mono ?_
  rintro e w' ⟨ho, F', E', hF', hE', hd, rfl, hor⟩
  have hbel : Below w.heap.size w w' := h6.trans (ho.below h6.size fun k hk => hk.elim (h3 k) (h4 k))
  have q : ∀ {s' r'}, D n F' d s' w' → J n E' j d r' w' → JHold D J n d j s' r' w w' := fun q1 q2 =>
    ⟨⟨F', E', q1, q2, fun k hk => (hF' k hk).elim (h3 k) fun h' => Nat.le_trans h6.size h', fun k hk => (hE' k hk).elim (h4 k) fun h' => Nat.le_trans h6.size h', hd⟩, hbel⟩
  rcases hor with ⟨e0, q1, q2⟩ | ⟨e0, q1, q2⟩
  · exact ⟨_, _, rfl, q q1 q2, Or.inl ⟨e0, rfl, rfl⟩⟩
  · exact ⟨_, _, rfl, q q1 q2, Or.inr ⟨e0, rfl, rfl⟩⟩
theorem JHold.start (JC : JrnC D J) (h : JHold D J n d j s r w W) (a : Option Addr) (m c : Nat) (b : List Nat) (k : Int) (hk : i64d k) (hb : Cells w a m (b.map b8)) (h256 : ∀ x ∈ b, x < 256) (hc : m ≤ c) (hm : c ≤ maxLen) :
    Calls Try.prog 26 #[.pointer (some j), .slice a m c, .int .i64 k] W fun e w' => ∃ s' r', e = .returned (errv (startN n r b k : Int)) ∧ JHold D J n d j s' r' w w' ∧
      ((startN n r b k = 0 ∧ s' = stgS s r b k ∧ r' = stgR r b k) ∨ (startN n r b k ≠ 0 ∧ s' = s ∧ r' = r)) := by
  obtain ⟨⟨F, E, h1, h2, h3, h4, h5⟩, h6⟩ := h
  refine (JC.start a m c b k hk h1 h2 h5 (hb.upB h6) h256 (far2_old hb h3 h4) hc hm).mono ?_
  rintro e w' ⟨ho, F', E', hF', hE', hd, rfl, hor⟩
  have hbel : Below w.heap.size w w' := h6.trans (ho.below h6.size fun k hk => hk.elim (h3 k) (h4 k))
  have q : ∀ {s' r'}, D n F' d s' w' → J n E' j d r' w' → JHold D J n d j s' r' w w' := fun q1 q2 =>
    ⟨⟨F', E', q1, q2, fun k hk => (hF' k hk).elim (h3 k) fun h' => Nat.le_trans h6.size h', fun k hk => (hE' k hk).elim (h4 k) fun h' => Nat.le_trans h6.size h', hd⟩, hbel⟩
  rcases hor with ⟨e0, q1, q2⟩ | ⟨e0, q1, q2⟩
  · exact ⟨_, _, rfl, q q1 q2, Or.inl ⟨e0, rfl, rfl⟩⟩
  · exact ⟨_, _, rfl, q q1 q2, Or.inr ⟨e0, rfl, rfl⟩⟩
theorem JHold.free (DC : DiskC D) (JC : JrnC D J) (h : JHold D J n d j s r w W) :
    Calls Try.prog 28 #[.pointer (some j)] W fun e w' => e = .returned (.int .i64 (freeN n r : Int)) ∧ JHold D J n d j s r w w' ∧ Below W.heap.size W w' := by
  obtain ⟨F, E, h1, h2, -⟩ := h.at'
  refine (JC.free h1 h2).mono ?_
  rintro e w' ⟨hb, rfl⟩
  exact ⟨rfl, h.up DC JC hb, hb⟩
theorem JHold.records (DC : DiskC D) (JC : JrnC D J) (h : JHold D J n d j s r w W) :
    Calls Try.prog 24 #[.pointer (some j)] W fun e w' => ∃ v, e = .returned v ∧ OwnRecs W.heap.size v r.recs w' ∧ JHold D J n d j s r w w' ∧ Below W.heap.size W w' := by
  obtain ⟨F, E, h1, h2, -⟩ := h.at'
  refine (JC.records h2).mono ?_
  rintro e w' ⟨hb, v, rfl, ho⟩
  exact ⟨v, rfl, ho, h.up DC JC hb, hb⟩

theorem up_jrn : (openR (Dsk.zero 1)) = ⟨[], 0, false⟩ ∧ openS (Dsk.zero 1) = Dsk.zero 1 :=
  ⟨((good_zero 1).open').2, ((good_zero 1).open').1⟩
theorem up_may : mayN 1 ⟨[], 0, false⟩ [5] = 0 := by decide +kernel
theorem up_bytes : ((stgS (Dsk.zero 1) ⟨[], 0, false⟩ [5] 4).nw.take 9) = [1, 0, 0, 0, 254, 255, 255, 255, 5] := by decide +kernel
theorem str_up8 : (strB [1, 0, 0, 0, 254, 255, 255, 255, 5]).toList = ([1, 0, 0, 0, 254, 255, 255, 255, 5] : List UInt8) := by rw [ByteArray.toList_eq]; decide +kernel

set_option maxHeartbeats 4000000 in
theorem up08_any (DC : Hid (DiskC D)) (JC : Hid (JrnC D J)) (w : World) : Calls Try.prog 9 #[] w fun e w' => e = .returned (.bool true) ∧ Below w.heap.size w w' := by
  have hst := str_up8
  have rd := fun (w : World) (k : Int) => run_eql_code w k k
  go_enter Try.func9, Try.ntmps9
  go_wp2_with fail
  refine (DC.out.new 1 _ (by unfold i64d; omega)).mono ?_
  rintro e w1 ⟨hb1, ⟨-, -, d, F1, rfl, hD1, hF1⟩ | ⟨h, -⟩⟩
  rotate_left
  · omega
  have H1 : Hid (DHold D 1 d (Dsk.zero 1) w w1) := ⟨⟨F1, hD1, hF1⟩, hb1⟩
  clear hD1 hF1 hb1
  go_wp2_with fail
  refine (H1.out.open' JC.out (Dsk.byt_zero 1)).mono ?_
  rintro e w2 ⟨j, rfl, hj2⟩
  rw [up_jrn.1, up_jrn.2] at hj2
  have H2 := Lib.hid hj2
  clear hj2
  have hbw : Below w2.heap.size w2 (w2.alloc (Obj.cells #[.int .u8 5] 5)) := (Below.refl _ _).alloc (Nat.le_refl _) _
  have HW := Lib.hid hbw
  clear hbw
  obtain ⟨⟨F, E, q1, q2, q3, q4, q5⟩, q6⟩ := H2.out
  have Q1 := Lib.hid q1
  have Q2 := Lib.hid q2
  have Q3 : Hid (∀ k, F k ∨ E k → w.heap.size ≤ k) := fun k hk => hk.elim (q3 k) (q4 k)
  have Q5 := Lib.hid q5
  have Q6 := Lib.hid q6
  clear q1 q2 q3 q4 q5 q6 H2
  go_wp2_with fail
  refine (JC.out.append (some ⟨w2.heap.size, 0, none⟩) 1 1 [5] (DC.out.up Q1.out HW.out) (JC.out.up Q2.out HW.out) Q5.out ⟨rfl, Or.inr ⟨_, 0, rfl, fun i hi => by
    obtain rfl : i = 0 := by omega
    simp [b8]⟩⟩ (by simp) (fun x hx => by cases hx; exact Or.inr ⟨fun hf => by have := DC.out.lt Q1.out _ hf; simp at this, fun hf => by have := JC.out.lt Q2.out _ hf; simp at this⟩) (by omega) (by simp [maxLen])).mono ?_
  rintro e w3 ⟨ho3, F', E', hF', hE', hd', rfl, ⟨-, q1, q2⟩ | ⟨h, -⟩⟩
  rotate_left
  · exact absurd up_may h
  have HB3 : Hid (Below w.heap.size w w3) := (Q6.out.trans (HW.out.mono Q6.out.size)).trans (ho3.below (Nat.le_trans Q6.out.size HW.out.size) Q3.out)
  have Q1 := Lib.hid q1
  rw [up_may, show errv ((0 : Nat) : Int) = .nilIface from rfl]
  clear ho3 q1 q2 hF' hE' hd'
  go_wp2_with fail
  refine (DC.out.read 0 9 Q1.out (by unfold i64d; omega) (by unfold i64d; omega)).mono ?_
  rintro e w4 ⟨hb4, ⟨-, v, rfl, ho⟩ | ⟨h, -⟩⟩
  rotate_left
  · exact absurd h (by decide)
  have hnw : ((((stgS (Dsk.zero 1) ⟨[], 0, false⟩ [5] 4).nw.drop (0 : Int).toNat).take (9 : Int).toNat)) = [1, 0, 0, 0, 254, 255, 255, 255, 5] := by
    rw [show (0 : Int).toNat = 0 from rfl, show (9 : Int).toNat = 9 from rfl, List.drop_zero]
    exact up_bytes
  rw [hnw] at ho
  obtain ⟨pa, pc, rfl, hcl, -, -, -⟩ := own_bytes ho
  have HB4 := Lib.hid (HB3.out.trans (hb4.mono HB3.out.size))
  have HC4 := Lib.hid hcl
  clear hb4 ho hcl hnw
  go_wp2_with fail
  refine (JC.out.open0 _).mono ?_
  rintro e w5 ⟨hb5, rfl⟩
  have HB5 := Lib.hid (HB4.out.trans (hb5.mono HB4.out.size))
  have rs : (convert 27 9 (.slice pa 9 pc)).run Try.prog w5 = .ok (.string (strB [1, 0, 0, 0, 254, 255, 255, 255, 5])) w5 := run_str_row (c := pc) (HC4.out.upB hb5)
  clear hb5
  go_wp2_with fail
  go_ret
  exact ⟨by simp, HB5.out⟩
end
end Go.Proofs.Ytehfbafocbcfnaa
