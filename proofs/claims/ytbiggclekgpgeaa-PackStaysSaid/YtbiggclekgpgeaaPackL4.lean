/- The walk of PackStays: what is handed in stays as it is; what was told stays, whatever becomes of it. -/
import Derived.Test.YtbiggclekgpgeaaPackMut
import Derived.Deep.RegionHeld3
namespace Go.Proofs.Ytbiggclekgpgeaa
open Go Go.RowKit
set_option linter.unusedVariables false

set_option maxRecDepth 100000 in
set_option maxHeartbeats 16000000 in
theorem packStays_walk (PC : Hid PackC) (k y l : Int) (a : Option Addr) (n c : Nat) (N : List Int) (ab : Option Addr) (nb cb : Nat) (bs : List Nat) (w : World)
    (hk : i64 k) (hy : i64 y) (hl : i64 l) (hN : Elems w a n N) (hc : n ≤ c) (hnil : a = none → c = 0) (hb : Cells w ab nb (bs.map b8)) (h256 : ∀ b ∈ bs, b < 256) (hcb : nb ≤ cb) (hmb : cb ≤ maxLen) (hnilb : ab = none → cb = 0) :
    Calls Try.prog 6 #[cmdV k y l (.slice a n c), .slice ab nb cb] w fun e w' => e = .returned (.bool true) ∧ Below w.heap.size w w' := by
  have HB : Hid (Below w.heap.size w (w.alloc (Obj.cells #[.int .i64 k, .int .i64 y, .int .i64 l, .slice a n c] 24))) := (Below.refl _ _).alloc (Nat.le_refl _) _
  have HA := Lib.hid (CmdAt.new w k y l (.slice a n c))
  have HE : Hid (∀ W, Below w.heap.size w W → Elems W a n N) := fun W hW => hN.upB hW
  have HC : Hid (∀ W, Below w.heap.size w W → Cells W ab nb (bs.map b8)) := fun W hW => hb.upB hW
  have H256 := Lib.hid h256
  have HM := Lib.hid hmb
  have HI := Lib.hid (And.intro hk (And.intro hy hl))
  have HNL := Lib.hid hN.1
  have HN64 := Lib.hid hN.2.1
  have HNIL := Lib.hid hnil
  have HNILB := Lib.hid hnilb
  have HBL : Hid (bs.length = nb) := by have := hb.1; rw [List.length_map] at this; exact this
  clear hk hy hl hN hb h256 hmb hnil hnilb
  go_enter Try.func6, Try.ntmps6
  go_wp2_with fail
  refine (up06_any PC _).mono ?_
  rintro e w1 ⟨rfl, hb1⟩
  have HB1 := Lib.hid (HB.out.trans (hb1.mono HB.out.size))
  have HA1 := Lib.hid (HA.out.call hb1)
  obtain ⟨p0, p1, p2, p3, -, -⟩ := HA1.out
  clear hb1 HB HA
  by_cases hbig : 1000 < n ∨ (n ≤ 1000 ∧ 1000 < nb)
  · rcases hbig with h | ⟨h, h'⟩
    · have t1 : (1000 : Int) < (n : Int) := by omega
      go_wp2_with fail
      go_ret
      exact ⟨rfl, HB1.out⟩
    · have t1 : (n : Int) ≤ 1000 := by omega
      have t2 : (1000 : Int) < (nb : Int) := by omega
      go_wp2_with fail
      go_ret
      exact ⟨rfl, HB1.out⟩
  have hn1 : n ≤ 1000 := by omega
  have hnb : nb ≤ 1000 := by omega
  have t1 : (n : Int) ≤ 1000 := by omega
  have t2 : (nb : Int) ≤ 1000 := by omega
  clear hbig
  obtain ⟨P, er, her, hput⟩ := put_got PC k y l n N HI.out.1 HI.out.2.1 HI.out.2.2 hn1
  obtain ⟨kx, yx, lx, Nx, ex, hex, hNx, hget⟩ := get_got PC bs H256.out
  have HPUT := Lib.hid hput
  have HGET := Lib.hid hget
  have HER := Lib.hid her
  have HEX := Lib.hid hex
  clear hput hget her hex
  have HD1 := Lib.hid (CmdAt.new w1 k y l (.slice a n c))
  have HO1 : Hid (((w1.alloc (Obj.cells #[.int .i64 k, .int .i64 y, .int .i64 l, .slice a n c] 24)).alloc (Obj.cells #[] 2)).ownsRow (w1.heap.size + 1) 2 1 (.slice (some ⟨w1.heap.size + 1, 0, none⟩) 0 0) 0 (([] : List Int).map iv)) := by
    have h := World.ownsRow_lit (base := w1.heap.size + 1) (e := 2) (size := 1) (w1.alloc (Obj.cells #[.int .i64 k, .int .i64 y, .int .i64 l, .slice a n c] 24)) #[] 0 (by simp) (by decide) rfl
    rw [World.size_alloc] at h
    exact h
  have hb2 : Below w1.heap.size w1 ((w1.alloc (Obj.cells #[.int .i64 k, .int .i64 y, .int .i64 l, .slice a n c] 24)).alloc (Obj.cells #[] 2)) := ((Below.refl _ _).alloc (Nat.le_refl _) _).alloc (by simp) _
  have hb2' : Below (w1.heap.size + 1) (w1.alloc (Obj.cells #[.int .i64 k, .int .i64 y, .int .i64 l, .slice a n c] 24)) ((w1.alloc (Obj.cells #[.int .i64 k, .int .i64 y, .int .i64 l, .slice a n c] 24)).alloc (Obj.cells #[] 2)) := (Below.refl _ _).alloc (by simp) _
  have HB2 := Lib.hid (HB1.out.trans (hb2.mono HB1.out.size))
  have HB2' := Lib.hid hb2'
  have HA2 := Lib.hid (HA1.out.call hb2)
  obtain ⟨r0, r1, r2, r3, -, -⟩ := HA2.out
  have M1 : Hid (0 + n ≤ maxLen) := by show 0 + n ≤ maxLen; simp only [maxLen]; omega
  have HEL2 := Lib.hid (HE.out _ HB2.out)
  have HNB : Hid (0 + n = n) := Nat.zero_add n
  have HCE : Hid (Cells ((w1.alloc (Obj.cells #[.int .i64 k, .int .i64 y, .int .i64 l, .slice a n c] 24)).alloc (Obj.cells #[] 2)) a n (N.map iv)) := by
    obtain ⟨h1, h2, h3⟩ := HEL2.out
    refine ⟨by rw [List.length_map]; exact h1, ?_⟩
    rcases h3 with h0 | ⟨b, off, e, hc⟩
    · exact Or.inl h0
    · refine Or.inr ⟨b, off, e, fun j hj => ?_⟩
      rw [hc j hj]
      simp [List.getD, iv, show j < N.length by omega]
  clear hb2 hb2'
  go_wp2_with (at_builtin; refine wpList_append_cells rfl (.tmp 31) (.tmp 33) 22 rfl (w1.heap.size + 1) Ti64 _ 0 _ rfl HO1.out a n c _ rfl HNIL.out HCE.out (iv_one _) M1.out (by omega) (by simp) ?_; intro v3 w3 o3 q3 x3 l3; rw [← List.map_append, List.nil_append, HNB.out] at o3; have HB3' := Lib.hid (HB2'.out.grown q3 (by simp) (fun z hz => (HO1.out.lt z hz).1)); have HD3 := Lib.hid (HD1.out.upTo HB3'.out); obtain ⟨d0, d1, d2, d3, df, -⟩ := HD3.out; obtain ⟨a3, c3, rfl, -, -, hc3, -⟩ := own_ints o3; have HO3 := Lib.hid o3; have hD4 := HD3.out.set (.slice a3 n c3); have HD4 := Lib.hid hD4; obtain ⟨s0, s1, s2, s3, -, -⟩ := hD4; clear o3 q3 x3 l3 r0 r1 r2 r3)
  have hB4 : Below (w1.heap.size + 1) (w1.alloc (Obj.cells #[.int .i64 k, .int .i64 y, .int .i64 l, .slice a n c] 24)) w3 := HB3'.out
  have hB4' : Below w1.heap.size w1 (w3.setCell ⟨w1.heap.size, 3, none⟩ (.slice a3 n c3)) := (((Below.refl w1.heap.size w1).alloc (Nat.le_refl _) _).trans (hB4.mono (Nat.le_succ _))).setCell (Nat.le_refl _) _
  have HB4 := Lib.hid (HB1.out.trans (hB4'.mono HB1.out.size))
  have HA4 := Lib.hid (HA1.out.call hB4')
  have HE4 := Lib.hid (own_elems (ownsRow_setCell_below (a := ⟨w1.heap.size, 3, none⟩) HO3.out (Nat.lt_succ_self _) (.slice a3 n c3)) HN64.out)
  clear hB4 hB4' HB2 HB2' HA2 HEL2 HCE HO1 HD1 HB3' HD3 HO3 d0 d1 d2 d3 df p0 p1 p2 p3 HA1
  obtain ⟨W4, hW4⟩ : ∃ W4, W4 = w3.setCell ⟨w1.heap.size, 3, none⟩ (.slice a3 n c3) := ⟨_, rfl⟩
  rw [← hW4] at HD4 s0 s1 s2 s3 HB4 HA4 HE4 ⊢
  clear hW4
  refine (HPUT.out a3 c3 _ HE4.out hc3).mono ?_
  rintro e w5 ⟨hb5, pa, m, pc, rfl, hcl5, hmi5, hm, hmc⟩
  have rs := run_str_row (c := pc) hcl5
  have HMI5 := Lib.hid hmi5
  have HB5 := Lib.hid hb5
  clear hb5 hcl5 hmi5 s0 s1 s2 s3
  go_wp2_with fail
  clear rs
  go_loopw [10] (fun i wr => ∃ (j : Nat), j ≤ m ∧ i = .int .i64 (j : Int) ∧ Hid (Mine W4.heap.size w5.heap.size pa m wr) ∧ Hid (Below W4.heap.size W4 wr)) (fun i _ => m - (RowKit.intOf i).toNat)
  case atStart => exact ⟨0, by omega, rfl, HMI5, HB5⟩
  case round =>
    obtain ⟨j, hj, rfl, hmi, hbl⟩ := hrel
    by_cases hlt : j < m
    · obtain ⟨g, off, x, rfl, hg1, hg2, hcc, hff⟩ := hmi.out.get hlt
      have t6 : (j : Int) < (m : Int) := by omega
      have t7 : (0 : Int) ≤ (j : Int) := by omega
      go_wp2_with fail
      go_roundw
      case rel => exact ⟨j + 1, by omega, by go_num, hmi.out.set hlt _, hbl.out.setCell hg1 _⟩
      case measure => simp [RowKit.intOf]; omega
    · obtain rfl : j = m := by omega
      clear hlt hmi HMI5 HB5
      have hD5 := HD4.out.call hbl.out
      have HD5 := Lib.hid hD5
      obtain ⟨s0, s1, s2, s3, -, -⟩ := hD5
      have HA5 := Lib.hid (HA4.out.call hbl.out)
      have HE5 := Lib.hid (HE4.out.upB hbl.out)
      have HB5 := Lib.hid (HB4.out.trans (hbl.out.mono HB4.out.size))
      clear hbl HD4 HA4 HE4 HB4
      obtain ⟨W5, hW5⟩ : ∃ W5, W5 = wr := ⟨_, rfl⟩
      subst hW5
      go_wp2_with fail
      refine (HPUT.out a3 c3 _ HE5.out hc3).mono ?_
      rintro e w6 ⟨hb6, pa2, m2, pc2, rfl, hcl6, -, -, -⟩
      have HQ6 : Hid (∀ W, Below w6.heap.size w6 W → Cells W pa2 m2 (P.map b8)) := fun W hW => hcl6.upB hW
      have HD6 := Lib.hid (HD5.out.call hb6)
      have HA6 := Lib.hid (HA5.out.call hb6)
      have HE6 := Lib.hid (HE5.out.upB hb6)
      have HB6 := Lib.hid (HB5.out.trans (hb6.mono HB5.out.size))
      clear hb6 hcl6 HD5 HA5 HE5 HB5 s0 s1 s2 s3 HPUT
      have HO6 : Hid ((w6.alloc (Obj.cells #[] 5)).ownsRow w6.heap.size 5 1 (.slice (some ⟨w6.heap.size, 0, none⟩) 0 0) 0 (([] : List Nat).map b8)) := World.ownsRow_lit (base := w6.heap.size) (e := 5) (size := 1) w6 #[] 0 (Nat.le_refl _) (by decide) rfl
      have HT6 : Hid (Below w6.heap.size w6 (w6.alloc (Obj.cells #[] 5))) := (Below.refl _ _).alloc (Nat.le_refl _) _
      have HC6 := Lib.hid (HC.out _ (HB6.out.trans (HT6.out.mono HB6.out.size)))
      have M6 : Hid (0 + nb ≤ maxLen) := by show 0 + nb ≤ maxLen; simp only [maxLen]; omega
      have HNB2 : Hid (0 + nb = nb) := Nat.zero_add nb
      go_wp2_with (at_builtin; refine wpList_append_cells rfl (.tmp 62) (.tmp 63) 26 rfl w6.heap.size Tu8 _ 0 _ rfl HO6.out ab nb cb _ rfl HNILB.out HC6.out (b8_one _) M6.out (by omega) (by simp) ?_; intro v7 w7 o7 q7 x7 l7; rw [b8_append, List.nil_append, HNB2.out] at o7; have HT7 := Lib.hid (HT6.out.grown q7 (by simp) (fun z hz => (HO6.out.lt z hz).1)); obtain ⟨am, cm, rfl, hcl7, -, hcm, -⟩ := own_bytes o7; have HO7 := Lib.hid o7; have HC7 := Lib.hid hcl7; clear o7 q7 x7 l7 hcl7)
      refine (HGET.out am nb cm _ HC7.out hnb hcm (own_cap HO7.out).2).mono ?_
      rintro e w8 ⟨hb8, a8, c8, rfl, hel8, hx8⟩
      have hbb8 := hb8.alloc hb8.size (Obj.cells #[.int .i64 kx, .int .i64 yx, .int .i64 lx, .slice a8 Nx.length c8] 24)
      have HI8 : Hid (Mine w6.heap.size w7.heap.size am nb (w8.alloc (Obj.cells #[.int .i64 kx, .int .i64 yx, .int .i64 lx, .slice a8 Nx.length c8] 24)) ∧
          Below w6.heap.size w6 (w8.alloc (Obj.cells #[.int .i64 kx, .int .i64 yx, .int .i64 lx, .slice a8 Nx.length c8] 24)) ∧
          CmdAt w8.heap.size kx yx lx (.slice a8 Nx.length c8) (w8.alloc (Obj.cells #[.int .i64 kx, .int .i64 yx, .int .i64 lx, .slice a8 Nx.length c8] 24)) ∧
          Elems (w8.alloc (Obj.cells #[.int .i64 kx, .int .i64 yx, .int .i64 lx, .slice a8 Nx.length c8] 24)) a8 Nx.length Nx) :=
        ⟨(Mine.of_own HO7.out).up hbb8, HT7.out.trans (hbb8.mono HT7.out.size), CmdAt.new w8 kx yx lx _, hel8.upB ((Below.refl w8.heap.size w8).alloc (Nat.le_refl _) _)⟩
      have HX8 := Lib.hid hx8
      have hs78 := hb8.size
      clear hb8 hbb8 hel8 hx8 HO7 HC7 HC6 HO6 HT7 HT6
      go_wp2_with fail
      go_loopw [16] (fun i wr => ∃ (j : Nat), j ≤ nb ∧ i = .int .i64 (j : Int) ∧ Hid (Mine w6.heap.size w7.heap.size am nb wr ∧ Below w6.heap.size w6 wr ∧ CmdAt w8.heap.size kx yx lx (.slice a8 Nx.length c8) wr ∧ Elems wr a8 Nx.length Nx)) (fun i _ => nb - (RowKit.intOf i).toNat)
      case atStart => exact ⟨0, by omega, rfl, HI8⟩
      case round =>
        obtain ⟨j, hj, rfl, hmi⟩ := hrel
        by_cases hlt : j < nb
        · obtain ⟨g, off, x, rfl, hg1, hg2, hcc, hff⟩ := hmi.out.1.get hlt
          have t6 : (j : Int) < (nb : Int) := by omega
          have t7 : (0 : Int) ≤ (j : Int) := by omega
          go_wp2_with fail
          go_roundw
          case rel => exact ⟨j + 1, by omega, by go_num, hmi.out.1.set hlt _, hmi.out.2.1.setCell hg1 _, hmi.out.2.2.1.setOther (by show g ≠ _; omega) _, hmi.out.2.2.2.setOther (by
              rcases HX8.out with h | h
              · exact Or.inl h
              · exact Or.inr fun x hx => by have := h x hx; show g ≠ _; omega) _⟩
          case measure => simp [RowKit.intOf]; omega
        · obtain rfl : j = nb := by omega
          obtain ⟨-, hb9, hX9, hE9⟩ := hmi.out
          have HX9 := Lib.hid hX9
          have HE9 := Lib.hid hE9
          have HA9 := Lib.hid (HA6.out.call hb9)
          have HD9 := Lib.hid (HD6.out.call hb9)
          have HF9 := Lib.hid (HE6.out.upB hb9)
          have HB9 := Lib.hid (HB6.out.trans (hb9.mono HB6.out.size))
          have HT9 := Lib.hid hb9
          clear hlt hmi HI8 HX8 hb9 hX9 hE9 HA6 HD6 HE6
          obtain ⟨W9, hW9⟩ : ∃ W9, W9 = wr := ⟨_, rfl⟩
          subst hW9
          go_wp2_with fail
          refine (HGET.out ab j cb _ (HC.out _ HB9.out) hnb hcb HM.out).mono ?_
          rintro e w10 ⟨hb10, a10, c10, rfl, hel10, -⟩
          obtain ⟨W10, hW10⟩ : ∃ W10, W10 = w10.alloc (Obj.cells #[.int .i64 kx, .int .i64 yx, .int .i64 lx, .slice a10 Nx.length c10] 24) := ⟨_, rfl⟩
          have hb11 : Below W9.heap.size W9 W10 := by rw [hW10]; exact hb10.alloc hb10.size _
          have hY : CmdAt w10.heap.size kx yx lx (.slice a10 Nx.length c10) W10 := by rw [hW10]; exact CmdAt.new w10 kx yx lx _
          have hE10 : Elems W10 a10 Nx.length Nx := by rw [hW10]; exact hel10.upB ((Below.refl w10.heap.size w10).alloc (Nat.le_refl _) _)
          have hX := HX9.out.call hb11
          have hD := HD9.out.call hb11
          have hA := HA9.out.call hb11
          have hEx := HE9.out.upB hb11
          have hEd := HF9.out.upB hb11
          have hB11 := HB9.out.trans (hb11.mono HB9.out.size)
          have hEa := HE.out _ hB11
          have hQ := HQ6.out _ (HT9.out.trans (hb11.mono HT9.out.size))
          have K : Hid (∀ W, Below W10.heap.size W10 W →
              ((W.cell? ⟨w1.heap.size, 0, none⟩ = some (.int .i64 k) ∧ W.cell? ⟨w1.heap.size, 1, none⟩ = some (.int .i64 y) ∧ W.cell? ⟨w1.heap.size, 2, none⟩ = some (.int .i64 l) ∧ W.cell? ⟨w1.heap.size, 3, none⟩ = some (.slice a3 n c3)) ∧
              (W.cell? ⟨w.heap.size, 0, none⟩ = some (.int .i64 k) ∧ W.cell? ⟨w.heap.size, 1, none⟩ = some (.int .i64 y) ∧ W.cell? ⟨w.heap.size, 2, none⟩ = some (.int .i64 l) ∧ W.cell? ⟨w.heap.size, 3, none⟩ = some (.slice a n c)) ∧
              (W.cell? ⟨w8.heap.size, 0, none⟩ = some (.int .i64 kx) ∧ W.cell? ⟨w8.heap.size, 1, none⟩ = some (.int .i64 yx) ∧ W.cell? ⟨w8.heap.size, 2, none⟩ = some (.int .i64 lx) ∧ W.cell? ⟨w8.heap.size, 3, none⟩ = some (.slice a8 Nx.length c8)) ∧
              (W.cell? ⟨w10.heap.size, 0, none⟩ = some (.int .i64 kx) ∧ W.cell? ⟨w10.heap.size, 1, none⟩ = some (.int .i64 yx) ∧ W.cell? ⟨w10.heap.size, 2, none⟩ = some (.int .i64 lx) ∧ W.cell? ⟨w10.heap.size, 3, none⟩ = some (.slice a10 Nx.length c10)) ∧ (convert 26 9 (.slice pa2 m2 pc2)).run Try.prog W = .ok (.string (strB P)) W)) := fun W hW =>
            have hD := hD.call hW
            have hA := hA.call hW
            have hX := hX.call hW
            have hY := hY.call hW
            ⟨⟨hD.c0, hD.c1, hD.c2, hD.c3⟩, ⟨hA.c0, hA.c1, hA.c2, hA.c3⟩, ⟨hX.c0, hX.c1, hX.c2, hX.c3⟩, ⟨hY.c0, hY.c1, hY.c2, hY.c3⟩, run_str_row (hQ.upB hW)⟩
          have KE : Hid (∀ W, Below W10.heap.size W10 W → (Elems W a3 n N ∧ Elems W a n N) ∧ (Elems W a8 Nx.length Nx ∧ Elems W a10 Nx.length Nx) ∧ Cells W pa2 m2 (P.map b8) ∧ Below w.heap.size w W) := fun W hW =>
            ⟨⟨hEd.upB hW, hEa.upB hW⟩, ⟨hEx.upB hW, hE10.upB hW⟩, hQ.upB hW, hB11.trans (hW.mono hB11.size)⟩
          have hT : Hid (Below W10.heap.size W10 W10) := Below.refl _ _
          have hst : ((strB P).toList == (strB P).toList) = true := strB_same _
          obtain ⟨⟨x0, x1, x2, x3⟩, ⟨y0, y1, y2, y3⟩, ⟨z0, z1, z2, z3⟩, ⟨u0, u1, u2, u3⟩, -⟩ := K.out _ hT.out
          clear hb10 hb11 hel10 hY hE10 hX hD hA hEx hEd hB11 hEa hQ HX9 HE9 HA9 HD9 HF9 HB9 HT9 HQ6 HC HE HGET HB6 hs78
          rcases HER.out with rfl | rfl <;> rcases HEX.out with rfl | rfl
          all_goals
            clear HER HEX
            go_wp2_with fail
            rw [← hW10]
            clear hW10
            go_region_held3 (fun w' => (w'.cell? ⟨w1.heap.size, 0, none⟩ = some (.int .i64 k) ∧ w'.cell? ⟨w1.heap.size, 1, none⟩ = some (.int .i64 y) ∧ w'.cell? ⟨w1.heap.size, 2, none⟩ = some (.int .i64 l) ∧ w'.cell? ⟨w1.heap.size, 3, none⟩ = some (.slice a3 n c3)) ∧
                (w'.cell? ⟨w.heap.size, 0, none⟩ = some (.int .i64 k) ∧ w'.cell? ⟨w.heap.size, 1, none⟩ = some (.int .i64 y) ∧ w'.cell? ⟨w.heap.size, 2, none⟩ = some (.int .i64 l) ∧ w'.cell? ⟨w.heap.size, 3, none⟩ = some (.slice a n c)) ∧
                (w'.cell? ⟨w8.heap.size, 0, none⟩ = some (.int .i64 kx) ∧ w'.cell? ⟨w8.heap.size, 1, none⟩ = some (.int .i64 yx) ∧ w'.cell? ⟨w8.heap.size, 2, none⟩ = some (.int .i64 lx) ∧ w'.cell? ⟨w8.heap.size, 3, none⟩ = some (.slice a8 Nx.length c8)) ∧
                (w'.cell? ⟨w10.heap.size, 0, none⟩ = some (.int .i64 kx) ∧ w'.cell? ⟨w10.heap.size, 1, none⟩ = some (.int .i64 yx) ∧ w'.cell? ⟨w10.heap.size, 2, none⟩ = some (.int .i64 lx) ∧ w'.cell? ⟨w10.heap.size, 3, none⟩ = some (.slice a10 Nx.length c10)) ∧ (convert 26 9 (.slice pa2 m2 pc2)).run Try.prog w' = .ok (.string (strB P)) w')
              (first | exact K.out _ hT.out | exact K.out _ (Below.drew hT.out) | exact K.out _ (Below.drew hT.out))
              (first
                | (go_at_call 12; with_reducible refine (refSame_any k y l a3 a n n c3 c N _ (by first | exact (KE.out _ hT.out).1.1 | exact (KE.out _ (Below.drew hT.out)).1.1) (by first | exact (KE.out _ hT.out).1.2 | exact (KE.out _ (Below.drew hT.out)).1.2) (by omega)).mono ?_; rintro e w12 ⟨rfl, hb12⟩; have hT := Lib.hid (by first | exact hT.out.trans (hb12.mono hT.out.size) | exact (Below.drew hT.out).trans (hb12.mono (Below.drew hT.out).size)); clear hb12)
                | (go_at_call 12; with_reducible refine (refSame_any kx yx lx a8 a10 Nx.length Nx.length c8 c10 Nx _ (by first | exact (KE.out _ hT.out).2.1.1 | exact (KE.out _ (Below.drew hT.out)).2.1.1) (by first | exact (KE.out _ hT.out).2.1.2 | exact (KE.out _ (Below.drew hT.out)).2.1.2) (by omega)).mono ?_; rintro e w13 ⟨rfl, hb13⟩; have hT := Lib.hid (by first | exact hT.out.trans (hb13.mono hT.out.size) | exact (Below.drew hT.out).trans (hb13.mono (Below.drew hT.out).size)); clear hb13))
            all_goals
              go_wp2_with fail
              go_ret
              exact ⟨by simp, (KE.out _ hT.out).2.2.2⟩
end Go.Proofs.Ytbiggclekgpgeaa
