/- The landed journal: a disk is opened. -/
import Derived.Test.YtehfbafocbcfnaaJbClear
import Derived.Test.YtehfbafocbcfnaaJbKeep
import Derived.Laws.Cover3
namespace Go.Proofs.Ytehfbafocbcfnaa
open Go Go.RowKit
set_option linter.unusedVariables false

theorem build_lj (a : Option Addr) (w : World) : (Instr.build 77 #[(0, .pointer a)]).run Try.prog w = .ok (.agg #[.pointer a, .slice none 0 0, .int .i64 0, .bool false]) w := run_build w 77 _ _ (by kernel_rfl)

/-- a slice of bytes from a place on -/
theorem slice_tail {a : Option Addr} {len cap P : Nat} {bs : List Nat} {W : World} (hb : Cells W a len (bs.map b8)) (hP : P ≤ len) (hc : len ≤ cap) :
    ∃ a' c', (∀ W', (Instr.slice 27 (.slice a len cap) (some (.int .i64 (P : Int))) none none).run Try.prog W' = .ok (.slice a' (len - P) c') W') ∧ Cells W a' (len - P) ((bs.drop P).map b8) ∧ len - P ≤ c' ∧ ∀ x, a' = some x → ∃ y, a = some y ∧ x.block = y.block := by
  have hz : ∀ w, (Go.sizeOf 5).run Try.prog w = .ok 1 w := fun w => by first | exact Try.sizeOf5 w | exact Try.sizeOf5 | simp [Try.sizeOf5]
  have ht' : Try.prog.underlying 27 = some (.slice (Try.prog.elem 27)) := by simp [Program.elem, Try.underlying27]
  have he : Try.prog.elem 27 = 5 := by simp [Program.elem, Try.underlying27]
  have hbl : bs.length = len := by have := hb.1; rwa [List.length_map] at this
  have hlen : ((bs.drop P).map b8).length = len - P := by simp; omega
  refine ⟨if cap = P then a else a.map (·.add (P * 1)), cap - P, fun W' => ?_, ⟨hlen, ?_⟩, by omega, fun x hx => ?_⟩
  · rw [run_slice_l W' 27 _ _ _ ht' .i64 _ (by omega) (by omega), he, hz]
    simp [Result.andThen, sliced]
  · by_cases h0 : len - P = 0
    · exact Or.inl h0
    · obtain ⟨b, o, rfl, hcell⟩ := hb.2.resolve_left (by omega)
      refine Or.inr ⟨b, o + P, by rw [if_neg (by omega)]; simp [Addr.add], fun j hj => ?_⟩
      rw [Nat.add_assoc, hcell (P + j) (by omega)]
      simp [List.getD, show P + j < bs.length by omega]
  · split at hx
    · exact ⟨x, hx, rfl⟩
    · cases a with
      | none => cases hx
      | some y => cases hx; exact ⟨y, rfl, by simp only [Addr.add]; split <;> rfl⟩

/-- what is held while a disk is opened, before a round -/
structure Opening (n g K : Nat) (s : Dsk) (w1 : World) (p m : Nat) (acc : List (List Nat)) (E : Nat → Prop) (v : Value) (vs : List Value) (bv : Value) (W : World) : Prop where
  la : LAt K E ⟨g, 0, none⟩ ⟨acc, p, false⟩ v vs W
  ok : LOk n ⟨acc, p, false⟩
  fuel : 64 * n ≤ p + m
  sc : recsOf s.nw = acc ++ (scanN s.nw m p).1 ∧ endOf s.nw = (scanN s.nw m p).2
  bel : Below w1.heap.size w1 W
  eb : ∀ k, E k → w1.heap.size ≤ k
  bv : (foundN s.nw p = 0 ∧ bv = .slice none 0 0) ∨ (foundN s.nw p ≠ 0 ∧ ∃ b o c, bv = .slice (some ⟨b, o, none⟩) (foundN s.nw p) c ∧ Cells W (some ⟨b, o, none⟩) (foundN s.nw p) (((s.nw.drop (p + 8)).take (foundN s.nw p)).map b8))

theorem Opening.last {n g K : Nat} {s : Dsk} {w1 : World} {p m : Nat} {acc : List (List Nat)} {E : Nat → Prop} {v : Value} {vs : List Value} {bv : Value} {W : World} (h : Opening n g K s w1 p m acc E v vs bv W) (h0 : foundN s.nw p = 0) : openR s = ⟨acc, p, false⟩ := by
  have e : scanN s.nw m p = ([], p) := by
    cases m with
    | zero => rfl
    | succ m => unfold scanN; rw [if_neg (by rw [h0]; simp)]
  obtain ⟨h1, h2⟩ := h.sc
  rw [e] at h1 h2
  unfold openR
  rw [h1, h2, List.append_nil]

theorem Opening.next {n g K : Nat} {s : Dsk} {w1 : World} {p m : Nat} {acc : List (List Nat)} {E : Nat → Prop} {v : Value} {vs : List Value} {bv : Value} {W : World} (h : Opening n g K s w1 p m acc E v vs bv W) (hl : s.nw.length = 64 * n) (h0 : foundN s.nw p ≠ 0) {W' : World} {E' : Nat → Prop} {v' : Value} {vs' : List Value} {z : List Nat} (hz : (s.nw.drop (p + 8)).take (foundN s.nw p) = z) (hzl : z.length = foundN s.nw p)
    (ho : Only E W W') (hE : ∀ k, E' k → E k ∨ W.heap.size ≤ k) (hla : LAt K E' ⟨g, 0, none⟩ ⟨acc ++ [z], p + 8 + foundN s.nw p, false⟩ v' vs' W') :
    ∃ m', LOk n ⟨acc ++ [z], p + 8 + foundN s.nw p, false⟩ ∧ 64 * n ≤ p + 8 + foundN s.nw p + m' ∧ (recsOf s.nw = (acc ++ [z]) ++ (scanN s.nw m' (p + 8 + foundN s.nw p)).1 ∧ endOf s.nw = (scanN s.nw m' (p + 8 + foundN s.nw p)).2) ∧
      Below w1.heap.size w1 W' ∧ (∀ k, E' k → w1.heap.size ≤ k) ∧ p + 8 + foundN s.nw p ≤ 64 * n := by
  have hfl := foundN_le s.nw p
  rw [hl] at hfl
  obtain ⟨m, rfl⟩ : ∃ m', m = m' + 1 := ⟨m - 1, by have := h.fuel; have := h.ok.fin; simp only at *; omega⟩
  have hsc := h.sc
  have e : scanN s.nw (m + 1) p = (z :: (scanN s.nw m (p + 8 + foundN s.nw p)).1, (scanN s.nw m (p + 8 + foundN s.nw p)).2) := by
    rw [← hz]
    show (if p + 8 < s.nw.length ∧ foundN s.nw p ≠ 0 then _ else _) = _
    rw [if_pos ⟨by omega, h0⟩]
  rw [e] at hsc
  have hm := h.ok.many
  simp only at hm
  refine ⟨m, ⟨by simp only; omega, h.ok.n, by simp only [List.length_append, List.length_singleton]; omega, fun x hx => ?_⟩, by have := h.fuel; omega, ⟨by rw [hsc.1, List.append_assoc]; rfl, hsc.2⟩, h.bel.trans (ho.below h.bel.size h.eb), fun k hk => (hE k hk).elim (h.eb k) fun h' => Nat.le_trans h.bel.size h', by omega⟩
  rcases List.mem_append.1 hx with h1 | h1
  · exact h.ok.each x h1
  · rw [List.mem_singleton.1 h1]; omega

set_option maxRecDepth 100000 in
set_option maxHeartbeats 16000000 in
theorem open_any {n g h t : Nat} {s : Dsk} (w : World) (H : DAt n g h t s w) (hby : ∀ x ∈ s.nw, x < 256) :
    Calls Try.prog 17 #[.pointer (some ⟨g, 0, none⟩)] w fun ed w' => Only (foot g h t) w w' ∧ ∃ E K v vs, ed = .returned (.tuple #[.pointer (some ⟨K, 0, none⟩), .nilIface]) ∧ (∀ k, E k → w.heap.size ≤ k) ∧
      DAt n g h t (openS s) w' ∧ LAt K E ⟨g, 0, none⟩ (openR s) v vs w' ∧ LOk n (openR s) := by
  have hn := H.ok.2.2.2
  have HH := Lib.hid H
  have HB := Lib.hid hby
  have HNL : Hid (s.nw.length = 64 * n) := H.ok.2.2.1
  have rb := build_lj
  have hnn : ∀ (a : Option Addr) (l c : Nat) (w : World), (binOp .neq 27 (.slice a l c) (.slice none 0 0)).run Try.prog w = .ok (.bool (!a.isNone)) w := fun a l c w => run_neq_slice_nil (P := Try.prog) (w := w) _ _ a l c Try.underlying27
  clear H hby
  go_enter Try.func17, Try.ntmps17
  go_wp2_with fail
  refine (size_any w HH.out).mono ?_
  rintro ed w0 ⟨rfl, rfl⟩
  go_wp2_with fail
  refine (read_any 0 (64 * (n : Int)) _ HH.out (by unfold i64d; omega) (by unfold i64d; omega)).mono ?_
  rintro ed w1 ⟨hb1, ⟨-, va, rfl, hown⟩ | ⟨hx, -⟩⟩
  rotate_left
  · exfalso
    unfold thereD at hx
    simp at hx
    omega
  rw [show (0 : Int).toNat = 0 from rfl, show (64 * (n : Int)).toNat = 64 * n by omega, List.drop_zero, List.take_of_length_le (by rw [HNL.out]; omega)] at hown
  obtain ⟨pa, pc, rfl, hcl, hpn, hpc, hpb⟩ := own_bytes hown
  have HB1 := Lib.hid hb1
  have HCL := Lib.hid hcl
  have HPB := Lib.hid hpb
  have hL0 : LAt w1.heap.size (fun k => k = w1.heap.size) ⟨g, 0, none⟩ ⟨[], 0, false⟩ (.slice none 0 0) [] (w1.alloc (Obj.cells #[.pointer (some ⟨g, 0, none⟩), .slice none 0 0, .int .i64 0, .bool false] 77)) :=
    ⟨Row.new w1 [.pointer (some ⟨g, 0, none⟩), .slice none 0 0, .int .i64 0, .bool false] _, World.ownsRow_nil _ _ _ _, (fun j hj => by simp at hj), (fun g hg => by cases hg), (fun j hj => by simp at hj), rfl, (fun k hk => by rw [hk, World.size_alloc]; omega)⟩
  have HL0 := Lib.hid hL0
  have hb2 : Below w1.heap.size w1 (w1.alloc (Obj.cells #[.pointer (some ⟨g, 0, none⟩), .slice none 0 0, .int .i64 0, .bool false] 77)) := (Below.refl _ _).alloc (Nat.le_refl _) _
  have HB2 := Lib.hid hb2
  clear hb1 hown hcl hpb hL0 hb2
  go_wp2_with fail
  refine (first_any pa (64 * n) pc s.nw _ (HCL.out.upB HB2.out) HB.out (by omega) hpc).mono ?_
  rintro ed w2 ⟨hb3, hres⟩
  have hfs : fstN s.nw = foundN s.nw 0 := by have := fstN_found (bs := s.nw) (p := 0) (Nat.zero_le _); rwa [List.drop_zero] at this
  rw [hfs] at hres
  obtain ⟨bv, rfl, hO⟩ : ∃ bv, ed = .returned bv ∧ Opening n g w1.heap.size s w1 0 s.nw.length [] (fun k => k = w1.heap.size) (.slice none 0 0) [] bv w2 := by
    rcases hres with ⟨h0, rfl⟩ | ⟨h0, b, o, rfl, hc⟩
    · exact ⟨_, rfl, ⟨HL0.out.up hb3, ⟨by simp, hn, by simp, fun x hx => by simp at hx⟩, by rw [HNL.out]; omega, ⟨rfl, rfl⟩, HB2.out.trans (hb3.mono HB2.out.size), fun k hk => by rw [hk]; exact Nat.le_refl _, Or.inl ⟨h0, rfl⟩⟩⟩
    · exact ⟨_, rfl, ⟨HL0.out.up hb3, ⟨by simp, hn, by simp, fun x hx => by simp at hx⟩, by rw [HNL.out]; omega, ⟨rfl, rfl⟩, HB2.out.trans (hb3.mono HB2.out.size), fun k hk => by rw [hk]; exact Nat.le_refl _, Or.inr ⟨h0, b, o, _, rfl, by simpa using hc⟩⟩⟩
  have HO := Lib.hid hO
  clear hb3 hres hfs hO HL0 HB2
  go_wp2_with fail
  go_loopw [7] (fun bv wr => ∃ p m acc E v vs, Hid (Opening n g w1.heap.size s w1 p m acc E v vs bv wr)) (fun _ wr => 64 * n - (RowKit.intOf ((wr.cell? ⟨w1.heap.size, 2, none⟩).getD undef)).toNat)
  case atStart => exact ⟨_, _, _, _, _, _, HO.out⟩
  case round =>
    obtain ⟨p, m, acc, E, v, vs, ho⟩ := hrel
    have hpf : p ≤ 64 * n := ho.out.ok.fin
    have c2 : wr.cell? ⟨w1.heap.size, 2, none⟩ = some (.int .i64 (p : Int)) := ho.out.la.cells.2.2.1
    have HBW : Hid (Below w0.heap.size w0 wr) := HB1.out.trans (ho.out.bel.mono HB1.out.size)
    rcases ho.out.bv with ⟨h0, rfl⟩ | ⟨h0, b, o, c, rfl, hc⟩
    · have HR := Lib.hid (ho.out.last h0)
      obtain ⟨ta, tc, hts, htc, htcap, htb⟩ := slice_tail (P := p) HCL.out hpf hpc
      have HTC := Lib.hid (htc.upB ho.out.bel)
      have HTB := Lib.hid htb
      have HLA := Lib.hid ho.out.la
      have HOK := Lib.hid ho.out.ok
      have HEB := Lib.hid ho.out.eb
      clear htc htb h0 ho HO
      go_wp2_with fail
      have HP : Hid (Putting n g h t s w1.heap.size p ta (64 * n - p) (s.nw.drop p) wr wr) := ⟨HH.out.up HBW.out, HLA.out.cells.1, c2, HTC.out, Only.refl _ _⟩
      have HLT := HH.out.lt
      have hsz := HB1.out.size
      refine (clear_any ta (64 * n - p) tc (s.nw.drop p) _ HP.out (fun hf => by rcases hf with hf | hf | hf <;> omega) (fun x hx => Or.inr fun hf => by
        obtain ⟨y, hy, e⟩ := HTB.out x hx
        have := HPB.out y hy
        rw [e] at hf
        rcases hf with hf | hf | hf <;> omega) (fun x hx => HB.out x (List.mem_of_mem_drop hx)) (by omega)).mono ?_
      rintro ed w5 ⟨rfl, ho5, hd5⟩
      have HO5 := Lib.hid ho5
      have HD5 := Lib.hid hd5
      clear ho5 hd5
      go_wp2_with fail
      go_ret2
      have hrs := HR.out
      have e1 : endOf s.nw = p := by have := congrArg Jr.fin hrs; exact this
      refine ⟨(Only.of_below HBW.out).trans HO5.out, E, _, v, vs, rfl, fun k hk => Nat.le_trans hsz (HEB.out k hk), ?_, ?_, ?_⟩
      · unfold openS
        rw [e1, HNL.out]
        exact HD5.out
      · rw [hrs]
        exact HLA.out.only HO5.out fun k hk hE => by
          have := HEB.out k hE
          rcases hk with hf | hf | hf <;> omega
      · rw [hrs]
        exact HOK.out
    · obtain ⟨z, hz⟩ : ∃ z, (s.nw.drop (p + 8)).take (foundN s.nw p) = z := ⟨_, rfl⟩
      have hfl := foundN_le s.nw p
      rw [HNL.out] at hfl
      have hzl : z.length = foundN s.nw p := by rw [← hz, List.length_take, List.length_drop, HNL.out]; omega
      have hO := ho.out
      have HZ := Lib.hid hz
      have HZL := Lib.hid hzl
      rw [hz] at hc
      obtain ⟨f, hff⟩ : ∃ f, foundN s.nw p = f := ⟨_, rfl⟩
      rw [hff] at hc hfl h0 ⊢
      have HFF := Lib.hid hff
      have HC := Lib.hid hc
      obtain ⟨P, hP⟩ : ∃ P, p + 8 + f = P := ⟨_, rfl⟩
      have hPn : P ≤ 64 * n := by omega
      have HPP := Lib.hid hP
      have hpP : p < P := by omega
      obtain ⟨ta, tc, hts, htc, htcap, htb⟩ := slice_tail (P := P) HCL.out hPn hpc
      have HTC := Lib.hid htc
      have hacc : acc.length ≤ 70000 := by have := hO.ok.many; simp only at this; omega
      clear hz hzl hc hff htc htb HO hO hP
      go_wp2_with fail
      refine (keep_any (some ⟨b, o, none⟩) f c z ho.out.la HC.out (by omega) (by omega) (by simp only; omega) hacc).mono ?_
      rintro ed w5 ⟨rfl, ho5, E', v', vs', hE', hla⟩
      have hnx := ho.out.next HNL.out (by rw [HFF.out]; exact h0) HZ.out HZL.out ho5 hE' (by rw [HFF.out]; exact hla)
      rw [HFF.out, HPP.out] at hnx
      obtain ⟨m', hok, hfuel, hscn, hbel, heb, hple⟩ := hnx
      have hla : LAt w1.heap.size E' ⟨g, 0, none⟩ ⟨acc ++ [z], P, false⟩ v' vs' w5 := by rw [← HPP.out]; exact hla
      have c2' : w5.cell? ⟨w1.heap.size, 2, none⟩ = some (.int .i64 (P : Int)) := hla.cells.2.2.1
      have HLA := Lib.hid hla
      have HOK := Lib.hid hok
      have HSC := Lib.hid hscn
      have HBEL := Lib.hid hbel
      have HEB := Lib.hid heb
      clear hla hok hscn hbel heb ho5 hE' ho
      go_wp2_with fail
      with_reducible refine (first_any ta (64 * n - (P)) tc (s.nw.drop (P)) _ (HTC.out.upB HBEL.out) (fun x hx => HB.out x (List.mem_of_mem_drop hx)) (by omega) htcap).mono ?_
      rintro ed w6 ⟨hb6, hres⟩
      rw [fstN_found (by rw [HNL.out]; exact hple)] at hres
      obtain ⟨bv', rfl, hO⟩ : ∃ bv', ed = .returned bv' ∧ Opening n g w1.heap.size s w1 (P) m' (acc ++ [z]) E' v' vs' bv' w6 := by
        rcases hres with ⟨h0, rfl⟩ | ⟨h0, b, o, rfl, hc⟩
        · exact ⟨_, rfl, ⟨HLA.out.up hb6, HOK.out, hfuel, HSC.out, HBEL.out.trans (hb6.mono HBEL.out.size), HEB.out, Or.inl ⟨h0, rfl⟩⟩⟩
        · exact ⟨_, rfl, ⟨HLA.out.up hb6, HOK.out, hfuel, HSC.out, HBEL.out.trans (hb6.mono HBEL.out.size), HEB.out, Or.inr ⟨h0, b, o, _, rfl, by rw [List.drop_drop] at hc; exact hc⟩⟩⟩
      have hO2 := Lib.hid hO
      have c6 : w6.cell? ⟨w1.heap.size, 2, none⟩ = some (.int .i64 (P : Int)) := hO.la.cells.2.2.1
      clear hb6 hres hO
      go_wp2_with fail
      go_roundw
      case rel => exact ⟨_, _, _, _, _, _, hO2.out⟩
      case measure => rw [c6, c2]; simp [RowKit.intOf]; omega
end Go.Proofs.Ytehfbafocbcfnaa
