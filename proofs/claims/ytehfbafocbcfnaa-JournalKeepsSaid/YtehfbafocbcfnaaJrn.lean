/- The contracts asked of package journal hold of the landed body. -/
import Derived.Test.YtehfbafocbcfnaaJbOpen
namespace Go.Proofs.Ytehfbafocbcfnaa
open Go Go.RowKit
set_option linter.unusedVariables false

theorem errv_yes {n : Nat} {r : Jr} {b : List Nat} (h : mayN n r b = 0) : errv (mayN n r b : Int) = .nilIface := by rw [h]; rfl
theorem errv_bad {n : Nat} {r : Jr} {b : List Nat} (h : mayN n r b ≠ 0) : ∃ k : Int, errv (mayN n r b : Int) = .iface 65 (.int .i64 k) := ⟨_, by unfold errv; rw [if_neg (by omega)]⟩

section
variable {n g h t K : Nat} {E : Nat → Prop} {r : Jr} {v : Value} {vs : List Value} {w w' : World} {s : Dsk}

theorem LAt.putting (hL : LAt K E ⟨g, 0, none⟩ r v vs w) (H : DAt n g h t s w) {a : Option Addr} {m : Nat} {b : List Nat} (hb : Cells w a m (b.map b8)) : Putting n g h t s K r.fin a m b w w :=
  ⟨H, hL.cells.1, hL.cells.2.2.1, hb, Only.refl _ _⟩

set_option maxRecDepth 100000 in
set_option maxHeartbeats 16000000 in
theorem append_any (a : Option Addr) (m c : Nat) (b : List Nat) (H : DAt n g h t s w) (hL : LAt K E ⟨g, 0, none⟩ r v vs w) (hok : LOk n r) (hd : ∀ k, E k → ¬ foot g h t k) (hb : Cells w a m (b.map b8)) (hf : Far2 (foot g h t) E a m) (hc : m ≤ c) (hm : c ≤ maxLen) :
    Calls Try.prog 25 #[.pointer (some ⟨K, 0, none⟩), .slice a m c] w fun e w' => Only (fun i => foot g h t i ∨ E i) w w' ∧ e = .returned (errv (mayN n r b : Int)) ∧
      ((mayN n r b = 0 ∧ DAt n g h t (stgS s r b 4) w' ∧ ∃ E' v' vs', (∀ k, E' k → E k ∨ w.heap.size ≤ k) ∧ LAt K E' ⟨g, 0, none⟩ (stgR r b 4) v' vs' w' ∧ LOk n (stgR r b 4)) ∨
        (mayN n r b ≠ 0 ∧ DAt n g h t s w' ∧ LAt K E ⟨g, 0, none⟩ r v vs w')) := by
  have hbl : b.length = m := by have := hb.1; rwa [List.length_map] at this
  have hck := check_any w H hL hok.fin a m c b hbl (by omega)
  by_cases hmay : mayN n r b = 0
  · obtain ⟨hbad, hm1, hm2, hm3⟩ := may_zero hmay
    rw [hbl] at hm1 hm2 hm3
    have hfin := hok.fin
    have hn := hok.n
    have hmany := hok.many
    rw [errv_yes hmay] at hck ⊢
    have H0 := Lib.hid H
    have HL := Lib.hid hL
    have HOK := Lib.hid hok
    have HD := Lib.hid hd
    have HB := Lib.hid hb
    have HF := Lib.hid hf
    have HBL := Lib.hid hbl
    clear H hL hok hd hb hf hbl
    go_enter Try.func25, Try.ntmps25
    go_wp2_with fail
    refine hck.mono ?_
    rintro e w1 ⟨rfl, q, rfl⟩
    have hbq := below_drewN (Below.refl w.heap.size w) q
    have HBQ := Lib.hid hbq
    clear hbq
    go_wp2_with fail
    refine (put_any (n := n) (h := h) (t := t) (s := s) r a m c b 4 _ ((HL.out.up HBQ.out).putting (H0.out.up HBQ.out) (HB.out.upB HBQ.out)) (HD.out _ HL.out.ek) (fun x hx => (HF.out x hx).imp id (·.1)) hm2 hm3 (by omega)).mono ?_
    rintro e w2 ⟨rfl, hd2, ho2⟩
    have HD2 := Lib.hid hd2
    have HO2 := Lib.hid ((Only.of_below HBQ.out).trans ho2 : Only (foot g h t) w w2)
    clear hd2 ho2
    have hL2 := HL.out.only HO2.out fun k hk hE => HD.out k hE hk
    have hb2 : Cells w2 a m (b.map b8) := by
      refine ⟨HB.out.1, ?_⟩
      rcases HB.out.2 with h0 | ⟨b', off, rfl, hcc⟩
      · exact Or.inl h0
      · refine Or.inr ⟨b', off, rfl, fun j hj => ?_⟩
        rw [World.cell?_of_block (w := w) (HO2.out.block b' (cell_lt (hcc j hj)) (((HF.out _ rfl).resolve_left (by omega)).1))]
        exact hcc j hj
    have HL2 := Lib.hid hL2
    have HB2 := Lib.hid hb2
    clear hL2 hb2
    go_wp2_with fail
    refine (keep_any a m c b HL2.out HB2.out hm1 hm2 (by omega) (by omega)).mono ?_
    rintro e w3 ⟨rfl, ho3, E', v', vs', hE', hla⟩
    have HO3 := Lib.hid ho3
    have HE3 := Lib.hid hE'
    have HLA := Lib.hid hla
    clear ho3 hE' hla
    go_wp2_with fail
    go_ret
    refine ⟨(HO2.out.mono fun k _ hk => Or.inl hk).trans (HO3.out.mono fun k _ hk => Or.inr hk), rfl, Or.inl ⟨hmay, HD2.out.only HO3.out fun k hk hf => HD.out k hk hf, E', v', vs', fun k hk => (HE3.out k hk).imp id fun h' => Nat.le_trans HO2.out.size h', ?_, ?_⟩⟩
    · rw [show stgR r b 4 = ⟨r.recs ++ [b], r.fin + 8 + b.length, r.bad⟩ from rfl, HBL.out]
      exact HLA.out
    · rw [show stgR r b 4 = ⟨r.recs ++ [b], r.fin + 8 + b.length, r.bad⟩ from rfl, HBL.out]
      refine ⟨hm3, hn, by simp only [List.length_append, List.length_singleton]; omega, fun x hx => ?_⟩
      rcases List.mem_append.1 hx with h1 | h1
      · exact HOK.out.each x h1
      · rw [List.mem_singleton.1 h1, HBL.out]; omega
  · obtain ⟨k, hk⟩ := errv_bad hmay
    rw [hk] at hck ⊢
    have H0 := Lib.hid H
    have HL := Lib.hid hL
    clear H hL hok hd hb hf hbl hk
    go_enter Try.func25, Try.ntmps25
    go_wp2_with fail
    refine hck.mono ?_
    rintro e w1 ⟨rfl, q, rfl⟩
    go_wp2_with fail
    go_ret
    have hbq := below_drewN (Below.refl w.heap.size w) q
    exact ⟨Only.of_below hbq, rfl, Or.inr ⟨hmay, H0.out.up hbq, HL.out.up hbq⟩⟩

theorem errv_zero {n : Nat} (h : n = 0) : errv (n : Int) = .nilIface := by rw [h]; rfl

set_option maxRecDepth 100000 in
set_option maxHeartbeats 16000000 in
theorem start_any (a : Option Addr) (m c : Nat) (b : List Nat) (k : Int) (hk : i64d k) (H : DAt n g h t s w) (hL : LAt K E ⟨g, 0, none⟩ r v vs w) (hok : LOk n r) (hd : ∀ k, E k → ¬ foot g h t k) (hb : Cells w a m (b.map b8)) (hf : Far2 (foot g h t) E a m) (hc : m ≤ c) (hm : c ≤ maxLen) :
    Calls Try.prog 26 #[.pointer (some ⟨K, 0, none⟩), .slice a m c, .int .i64 k] w fun e w' => Only (fun i => foot g h t i ∨ E i) w w' ∧ e = .returned (errv (startN n r b k : Int)) ∧
      ((startN n r b k = 0 ∧ DAt n g h t (stgS s r b k) w' ∧ LAt K E ⟨g, 0, none⟩ (stgR r b k) v vs w' ∧ LOk n (stgR r b k)) ∨
        (startN n r b k ≠ 0 ∧ DAt n g h t s w' ∧ LAt K E ⟨g, 0, none⟩ r v vs w')) := by
  have hbl : b.length = m := by have := hb.1; rwa [List.length_map] at this
  have hck := check_any w H hL hok.fin a m c b hbl (by omega)
  by_cases hmay : mayN n r b = 0
  · rw [errv_yes hmay] at hck
    by_cases hst : k < 1 ∨ 3 < k
    · have hs : startN n r b k = 1 := by unfold startN; rw [if_pos hmay, if_pos hst]
      rw [hs, show errv ((1 : Nat) : Int) = .iface 65 (.int .i64 1) from rfl]
      have H0 := Lib.hid H
      have HL := Lib.hid hL
      obtain ⟨hk1, hk2⟩ := hk
      clear H hL hok hd hb hf hbl hs
      rcases hst with h1 | h1
      · go_enter Try.func26, Try.ntmps26
        go_wp2_with fail
        refine hck.mono ?_
        rintro e w1 ⟨rfl, q, rfl⟩
        go_wp2_with fail
        go_ret
        have hbq := below_drewN (Below.refl w.heap.size w) q
        exact ⟨Only.of_below hbq, rfl, Or.inr ⟨by omega, H0.out.up hbq, HL.out.up hbq⟩⟩
      · have h2 : ¬ k < 1 := by omega
        go_enter Try.func26, Try.ntmps26
        go_wp2_with fail
        refine hck.mono ?_
        rintro e w1 ⟨rfl, q, rfl⟩
        go_wp2_with fail
        go_ret
        have hbq := below_drewN (Below.refl w.heap.size w) q
        exact ⟨Only.of_below hbq, rfl, Or.inr ⟨by omega, H0.out.up hbq, HL.out.up hbq⟩⟩
    · have hs : startN n r b k = 0 := by unfold startN; rw [if_pos hmay, if_neg hst]
      obtain ⟨hbad, hm1, hm2, hm3⟩ := may_zero hmay
      rw [hbl] at hm1 hm2 hm3
      have t1 : ¬ k < 1 := fun h => hst (Or.inl h)
      have t2 : ¬ 3 < k := fun h => hst (Or.inr h)
      have hR : stgR r b k = ⟨r.recs, r.fin, true⟩ := by unfold stgR; rw [if_neg (by omega)]
      rw [hs, hR, show errv ((0 : Nat) : Int) = .nilIface from rfl]
      have H0 := Lib.hid H
      have HL := Lib.hid hL
      have HOK := Lib.hid hok
      have HD := Lib.hid hd
      have HB := Lib.hid hb
      have HF := Lib.hid hf
      have HBL := Lib.hid hbl
      have hHK : ¬ foot g h t K := hd _ hL.ek
      clear H hL hok hd hb hf hbl hs hR hst
      go_enter Try.func26, Try.ntmps26
      go_wp2_with fail
      refine hck.mono ?_
      rintro e w1 ⟨rfl, q, rfl⟩
      have hbq := below_drewN (Below.refl w.heap.size w) q
      have HBQ := Lib.hid hbq
      have hLq := HL.out.up hbq
      have k3 := hLq.cells.2.2.2
      have f3 := hLq.r0.frozen 3
      have HL1 := Lib.hid hLq.spoil
      have hon : Only (fun i => i = K) (w.drewN q) ((w.drewN q).setCell ⟨K, 3, none⟩ (.bool true)) := (Only.refl (fun i => i = K) _).setCell rfl _
      have HON := Lib.hid hon
      have HD1 := Lib.hid ((H0.out.up hbq).only hon fun i hi hf => hHK (hi ▸ hf))
      have hb2 : Cells ((w.drewN q).setCell ⟨K, 3, none⟩ (.bool true)) a m (b.map b8) := by
        refine ⟨HB.out.1, ?_⟩
        have hbB := (HB.out.upB hbq).2
        rcases hbB with h0 | ⟨b', off, rfl, hcc⟩
        · exact Or.inl h0
        · refine Or.inr ⟨b', off, rfl, fun j hj => ?_⟩
          rw [World.cell?_of_block (w := w.drewN q) (hon.block b' (cell_lt (hcc j hj)) fun e => (((HF.out _ rfl).resolve_left (by omega)).2) (e ▸ HL.out.ek))]
          exact hcc j hj
      have HB2 := Lib.hid hb2
      clear hbq hLq hon hb2
      go_wp2_with fail
      refine (put_any (n := n) (h := h) (t := t) (s := s) r a m c b k _ (HL1.out.putting HD1.out HB2.out) hHK (fun x hx => (HF.out x hx).imp id (·.1)) hm2 hm3 (by omega)).mono ?_
      rintro e w2 ⟨rfl, hd2, ho2⟩
      have HD2 := Lib.hid hd2
      have HO2 := Lib.hid ho2
      clear hd2 ho2
      go_wp2_with fail
      go_ret
      refine ⟨((Only.of_below HBQ.out).trans (HON.out.mono fun i _ hi => Or.inr (by rw [hi]; exact HL.out.ek))).trans (HO2.out.mono fun i _ hi => Or.inl hi), rfl, Or.inl ⟨trivial, HD2.out, HL1.out.only HO2.out fun i hi hE => HD.out i hE hi, ⟨HOK.out.fin, HOK.out.n, HOK.out.many, HOK.out.each⟩⟩⟩
  · obtain ⟨x, hx⟩ := errv_bad hmay
    have hs : startN n r b k = mayN n r b := by unfold startN; rw [if_neg hmay]
    rw [hx] at hck
    rw [hs, hx]
    have H0 := Lib.hid H
    have HL := Lib.hid hL
    clear H hL hok hd hb hf hbl hx hs
    go_enter Try.func26, Try.ntmps26
    go_wp2_with fail
    refine hck.mono ?_
    rintro e w1 ⟨rfl, q, rfl⟩
    go_wp2_with fail
    go_ret
    have hbq := below_drewN (Below.refl w.heap.size w) q
    exact ⟨Only.of_below hbq, rfl, Or.inr ⟨hmay, H0.out.up hbq, HL.out.up hbq⟩⟩
end

theorem open0_any (w : World) : Calls Try.prog 17 #[.pointer none] w fun e w' => Below w.heap.size w w' ∧ e = .returned (.tuple #[.pointer none, errD 1]) := by
  go_enter Try.func17, Try.ntmps17
  go_wp2_with fail
  go_ret2
  exact ⟨Below.refl _ _, rfl⟩

theorem jrn_any : JrnC DD LJ where
  lt := by
    rintro n E j d r w ⟨K, v, vs, rfl, h, -⟩ k hk
    exact h.elt k hk
  keep := by
    rintro n E j d r w w' X ⟨K, v, vs, rfl, h, hok⟩ ho hX
    exact ⟨K, v, vs, rfl, h.only ho hX, hok⟩
  open0 := open0_any
  opens := by
    rintro n F d s w ⟨g, h, t, rfl, rfl, H⟩ hby
    refine (open_any w H hby.2).mono ?_
    rintro e w1 ⟨ho, E, K, v, vs, rfl, hE, hd, hL, hok⟩
    refine ⟨ho, foot g h t, E, ⟨K, 0, none⟩, fun k hk => Or.inl hk, hE, fun k hk hf => ?_, rfl, ⟨g, h, t, rfl, rfl, hd⟩, K, v, vs, rfl, hL, hok⟩
    have h1 := hE k hk
    have h2 := H.lt
    rcases hf with hf | hf | hf <;> omega
  append := by
    rintro n F E j d s r w a m c b ⟨g, h, t, rfl, rfl, H⟩ ⟨K, v, vs, rfl, hL, hok⟩ hd hb h256 hf hc hm
    refine (append_any a m c b H hL hok hd hb hf hc hm).mono ?_
    rintro e w1 ⟨ho, rfl, ⟨h0, hD, E', v', vs', hE', hL', hok'⟩ | ⟨h0, hD, hL'⟩⟩
    · refine ⟨ho, foot g h t, E', fun k hk => Or.inl hk, hE', fun k hk hf => ?_, rfl, Or.inl ⟨h0, ⟨g, h, t, rfl, rfl, hD⟩, K, v', vs', rfl, hL', hok'⟩⟩
      rcases hE' k hk with h1 | h1
      · exact hd k h1 hf
      · have h2 := H.lt
        rcases hf with hf | hf | hf <;> omega
    · exact ⟨ho, foot g h t, E, fun k hk => Or.inl hk, fun k hk => Or.inl hk, hd, rfl, Or.inr ⟨h0, ⟨g, h, t, rfl, rfl, hD⟩, K, v, vs, rfl, hL', hok⟩⟩
  start := by
    rintro n F E j d s r w a m c b k hk ⟨g, h, t, rfl, rfl, H⟩ ⟨K, v, vs, rfl, hL, hok⟩ hd hb h256 hf hc hm
    refine (start_any a m c b k hk H hL hok hd hb hf hc hm).mono ?_
    rintro e w1 ⟨ho, rfl, ⟨h0, hD, hL', hok'⟩ | ⟨h0, hD, hL'⟩⟩
    · exact ⟨ho, foot g h t, E, fun k hk => Or.inl hk, fun k hk => Or.inl hk, hd, rfl, Or.inl ⟨h0, ⟨g, h, t, rfl, rfl, hD⟩, K, v, vs, rfl, hL', hok'⟩⟩
    · exact ⟨ho, foot g h t, E, fun k hk => Or.inl hk, fun k hk => Or.inl hk, hd, rfl, Or.inr ⟨h0, ⟨g, h, t, rfl, rfl, hD⟩, K, v, vs, rfl, hL', hok⟩⟩
  free := by
    rintro n F E j d s r w ⟨g, h, t, rfl, rfl, H⟩ ⟨K, v, vs, rfl, hL, hok⟩
    refine (free_any w H hL hok.fin).mono ?_
    rintro e w1 ⟨rfl, q, rfl⟩
    exact ⟨below_drewN (Below.refl _ _) q, rfl⟩
  records := by
    rintro n E j d r w ⟨K, v, vs, rfl, hL, hok⟩
    have h1 := hok.many
    have h2 := hok.fin
    have h3 := hok.n
    exact (records_any hL (by omega) hok.each).mono fun e w1 h => h
end Go.Proofs.Ytehfbafocbcfnaa
