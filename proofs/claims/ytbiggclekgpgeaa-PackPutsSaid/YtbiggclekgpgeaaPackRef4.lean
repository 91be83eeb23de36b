/- The contract of the document's answer of layer 6: the command of any bytes. -/
import Derived.Test.YtbiggclekgpgeaaPackRef2
import Derived.Test.YtbiggclekgpgeaaPackRef3
import Derived.Test.YtbiggclekgpgeaaRows64
import Derived.RegionTactic
import Derived.BigRegion
namespace Go.Proofs.Ytbiggclekgpgeaa
open Go Go.RowKit
set_option linter.unusedVariables false

/-- a command by value -/
abbrev cmdV (k y l : Int) (s : Value) : Value := .agg #[.int .i64 k, .int .i64 y, .int .i64 l, s]

def GetTo (w : World) (bs : List Nat) (e : Ending) (w' : World) : Prop :=
  Below w.heap.size w w' ∧ ∃ (k y l : Int) (a : Option Addr) (n c : Nat),
    (∃ N, okC k y l N ∧ bs = putB k y l N ∧ Elems w' a n N ∧ e = .returned (.tuple #[cmdV k y l (.slice a n c), .bool true])) ∨
    (NoCmd bs ∧ e = .returned (.tuple #[cmdV k y l (.slice a n c), .bool false]))

/-- the zero variable of a command, as it lies -/
abbrev zcmd : Obj := Obj.cells #[.int .i64 0, .int .i64 0, .int .i64 0, .slice none 0 0] 24

theorem build_cmd0 (w : World) : (Instr.build 24 #[]).run Try.prog w = .ok (.agg #[.int .i64 0, .int .i64 0, .int .i64 0, .slice none 0 0]) w := run_build w 24 _ _ (by kernel_rfl)
theorem build_cmd3 (k y l : Int) (w : World) : (Instr.build 24 #[(0, .int .i64 k), (1, .int .i64 y), (2, .int .i64 l)]).run Try.prog w = .ok (.agg #[.int .i64 k, .int .i64 y, .int .i64 l, .slice none 0 0]) w := run_build w 24 _ _ (by kernel_rfl)
theorem build_cmd4 (k y l : Int) (a : Option Addr) (n c : Nat) (w : World) : (Instr.build 24 #[(0, .int .i64 k), (1, .int .i64 y), (2, .int .i64 l), (3, .slice a n c)]).run Try.prog w = .ok (.agg #[.int .i64 k, .int .i64 y, .int .i64 l, .slice a n c]) w := run_build w 24 _ _ (by kernel_rfl)

theorem cmd_frozen {w w1 : World} (hb : Below (w.heap.size + 1) (w.alloc zcmd) w1) :
    w1.frozen? ⟨w.heap.size, 0, none⟩ = false ∧ w1.frozen? ⟨w.heap.size, 1, none⟩ = false ∧ w1.frozen? ⟨w.heap.size, 2, none⟩ = false ∧ w1.frozen? ⟨w.heap.size, 3, none⟩ = false := by
  have hc : ∀ o, w1.frozen? ⟨w.heap.size, o, none⟩ = (w.alloc zcmd).frozen? ⟨w.heap.size, o, none⟩ := fun o => hb.frozen (p := ⟨w.heap.size, o, none⟩) (Nat.lt_succ_self _)
  rw [hc, hc, hc, hc]
  refine ⟨?_, ?_, ?_, ?_⟩ <;> simp

/-- a command's variable at block B -/
structure CmdAt (B : Nat) (k y l : Int) (v : Value) (w : World) : Prop where
  c0 : w.cell? ⟨B, 0, none⟩ = some (.int .i64 k)
  c1 : w.cell? ⟨B, 1, none⟩ = some (.int .i64 y)
  c2 : w.cell? ⟨B, 2, none⟩ = some (.int .i64 l)
  c3 : w.cell? ⟨B, 3, none⟩ = some v
  f3 : w.frozen? ⟨B, 3, none⟩ = false
  lt : B < w.heap.size
theorem CmdAt.call {B : Nat} {k y l : Int} {v : Value} {w1 w2 : World} (h : CmdAt B k y l v w1) (hb : Below w1.heap.size w1 w2) : CmdAt B k y l v w2 :=
  ⟨by rw [hb.cell (p := ⟨B, 0, none⟩) h.lt]; exact h.c0, by rw [hb.cell (p := ⟨B, 1, none⟩) h.lt]; exact h.c1, by rw [hb.cell (p := ⟨B, 2, none⟩) h.lt]; exact h.c2, by rw [hb.cell (p := ⟨B, 3, none⟩) h.lt]; exact h.c3,
   by rw [hb.frozen (p := ⟨B, 3, none⟩) h.lt]; exact h.f3, Nat.lt_of_lt_of_le h.lt hb.size⟩
theorem CmdAt.new (w : World) (k y l : Int) (s : Value) : CmdAt w.heap.size k y l s (w.alloc (Obj.cells #[.int .i64 k, .int .i64 y, .int .i64 l, s] 24)) :=
  ⟨by simp, by simp, by simp, by simp, by simp, by simp⟩
/-- behind what leaves all blocks up to this one -/
theorem CmdAt.upTo {B : Nat} {k y l : Int} {v : Value} {w1 w2 : World} (h : CmdAt B k y l v w1) (hb : Below (B + 1) w1 w2) : CmdAt B k y l v w2 :=
  ⟨by rw [hb.cell (p := ⟨B, 0, none⟩) (Nat.lt_succ_self _)]; exact h.c0, by rw [hb.cell (p := ⟨B, 1, none⟩) (Nat.lt_succ_self _)]; exact h.c1, by rw [hb.cell (p := ⟨B, 2, none⟩) (Nat.lt_succ_self _)]; exact h.c2,
   by rw [hb.cell (p := ⟨B, 3, none⟩) (Nat.lt_succ_self _)]; exact h.c3, by rw [hb.frozen (p := ⟨B, 3, none⟩) (Nat.lt_succ_self _)]; exact h.f3, Nat.lt_of_lt_of_le h.lt hb.size⟩
theorem CmdAt.set {B : Nat} {k y l : Int} {v : Value} {w : World} (h : CmdAt B k y l v w) (v' : Value) : CmdAt B k y l v' (w.setCell ⟨B, 3, none⟩ v') := by
  refine ⟨?_, ?_, ?_, ?_, ?_, ?_⟩
  · rw [World.cell?_setCell_other _ _ _ _ (by simp)]; exact h.c0
  · rw [World.cell?_setCell_other _ _ _ _ (by simp)]; exact h.c1
  · rw [World.cell?_setCell_other _ _ _ _ (by simp)]; exact h.c2
  · exact World.cell?_setCell_same _ _ _ h.c3
  · rw [World.frozen?_setCell]; exact h.f3
  · simpa using h.lt

/-- a slice's length -/
def lenOf : Value → Nat | .slice _ n _ => n | _ => 0

set_option maxRecDepth 100000 in
set_option maxHeartbeats 8000000 in
theorem refGet_any (a : Option Addr) (len cap : Nat) (bs : List Nat) (w : World) (hb : Cells w a len (bs.map b8)) (h256 : ∀ b ∈ bs, b < 256) (hlen : len ≤ 1000) (hcap : len ≤ cap) (hm : cap ≤ maxLen) :
    Calls Try.prog 11 #[.slice a len cap] w (GetTo w bs) := by
  have hl : bs.length = len := by have := hb.1; rwa [List.length_map] at this
  have HL := Lib.hid hl
  have H256 := Lib.hid h256
  have HB : Hid (∀ W, Below w.heap.size w W → Cells W a len (bs.map b8)) := fun W hW => hb.upB hW
  have HM := Lib.hid hm
  have rb0 := build_cmd0
  have rb3 := build_cmd3
  clear hl h256 hb hm
  obtain ⟨W0, hW0⟩ : ∃ W0, W0 = w.alloc zcmd := ⟨_, rfl⟩
  have HS0 : Hid (W0.heap.size = w.heap.size + 1) := by rw [hW0]; exact World.size_alloc ..
  have E1 : Hid (∀ W, Below (w.heap.size + 1) W0 W → Below w.heap.size w W) := fun W hW => ((Below.refl w.heap.size w).alloc (Nat.le_refl _) _).trans (by rw [hW0] at hW; exact hW.mono (by omega))
  have Z0 : Hid (∀ W, Below (w.heap.size + 1) W0 W → (W.cell? ⟨w.heap.size, 0, none⟩ = some (.int .i64 0) ∧ W.cell? ⟨w.heap.size, 1, none⟩ = some (.int .i64 0) ∧ W.cell? ⟨w.heap.size, 2, none⟩ = some (.int .i64 0) ∧ W.cell? ⟨w.heap.size, 3, none⟩ = some (.slice none 0 0)) ∧ W.frozen? ⟨w.heap.size, 0, none⟩ = false ∧ W.frozen? ⟨w.heap.size, 1, none⟩ = false ∧ W.frozen? ⟨w.heap.size, 2, none⟩ = false ∧ W.frozen? ⟨w.heap.size, 3, none⟩ = false) := fun W hW => by
    rw [hW0] at hW; exact ⟨cmd_cells hW, cmd_frozen hW⟩
  go_enter Try.func11, Try.ntmps11
  go_wp2_with fail
  rw [← hW0]
  clear hW0
  go_loopw [4, 5] (fun v i wr => ∃ (L : List Int) (rest : List Nat), i = .int .i64 (((allB L).length : Nat) : Int) ∧ wr.ownsRow (w.heap.size + 1) 2 1 v L.length (L.map iv) ∧ L.length ≤ 4 ∧ Hid (bs = allB L ++ rest ∧ ∀ n ∈ L, i64 n) ∧ Hid (Below (w.heap.size + 1) W0 wr)) (fun v _ _ => 4 - lenOf v)
  case atStart => exact ⟨[], bs, rfl, World.ownsRow_nil _ _ _ _, by simp, ⟨rfl, fun n hn => by cases hn⟩, Below.refl _ _⟩
  case round =>
    obtain ⟨L, rest, rfl, hown, hL4, hbs, hbel⟩ := hrel
    obtain ⟨g, cp, rfl, hcl, hnil, hcp, hgb, hcell⟩ := own_ints hown
    have hpl : (allB L).length ≤ len := by have h1 := hbs.out.1; have h2 := HL.out; rw [h1, List.length_append] at h2; omega
    have hdr : bs.drop (allB L).length = rest := by rw [hbs.out.1, List.drop_left]
    obtain ⟨p, hp⟩ : ∃ p, (allB L).length = p := ⟨_, rfl⟩
    rw [hp] at hpl hdr
    rw [hp]
    have HP := Lib.hid hp
    have HDR := Lib.hid hdr
    clear hp hdr
    obtain ⟨⟨z0, z1, z2, z3⟩, f0, f1, f2, f3⟩ := Z0.out _ hbel.out
    by_cases h4 : L.length < 4
    · have HO := Lib.hid hown
      have hsz : w.heap.size + 1 ≤ wr.heap.size := by have := hbel.out.size; rw [HS0.out] at this; exact this
      clear hown hcl hnil hgb hcell
      go_wp2_with fail
      refine (refRead_any a len cap bs p _ (HB.out _ (E1.out _ hbel.out)) H256.out hpl hlen hcap HM.out).mono ?_
      rintro e w2 ⟨hb2, ⟨v, r, h64, hl, rfl⟩ | ⟨hno, rfl⟩⟩
      · rw [HDR.out] at hl
        have hbel2 := Lib.hid (hbel.out.trans (hb2.mono hsz))
        have HO2 := Lib.hid (ownsRow_upB HO.out hb2)
        have HV := Lib.hid (And.intro h64 hl)
        have t1 : (0 : Int) ≤ ((p + (numB v).length : Nat) : Int) := by omega
        have M3 : Hid (L.length + 1 ≤ maxLen) := by show L.length + 1 ≤ maxLen; simp only [maxLen]; omega
        have hsz2 : w.heap.size + 1 ≤ w2.heap.size := Nat.le_trans hsz hb2.size
        clear hb2 h64 hl HO hbel
        go_wp2_with (at_builtin; refine wpList_append_cells rfl (.tmp 23) (.tmp 25) 22 rfl (w.heap.size + 1) Ti64 _ L.length (L.map iv) rfl (HO2.out.alloc _) (some ⟨_, 0, none⟩) 1 1 [iv v] rfl (fun h => by cases h) (one_new _ _ _) (iv_one [v]) M3.out (by omega) (Nat.le_trans hsz2 (by simp)) ?_; intro v1 w3 o3 q3 r3 l3)
        have hb3 := Lib.hid ((hbel2.out.alloc hsz2 _).grown q3 (Nat.le_trans hsz2 (by simp)) (fun z hz => (HO2.out.lt z hz).1))
        rw [iv_snoc] at o3
        obtain ⟨g1, cp1, rfl, -⟩ := own_ints o3
        go_roundw
        case rel => exact ⟨L ++ [v], r, by rw [allB_snoc, List.length_append, HP.out]; go_num, by simpa using o3, by simp; omega, ⟨by rw [allB_snoc, List.append_assoc, ← HV.out.2]; exact hbs.out.1, fun n hn => by
            rcases List.mem_append.1 hn with h | h
            · exact hbs.out.2 n h
            · rw [List.mem_singleton.1 h]; exact HV.out.1⟩, hb3⟩
        case measure => simp [lenOf]; omega
      · rw [HDR.out] at hno
        have HN := Lib.hid (noCmd_short hbs.out.1 hno (Or.inl h4))
        have hbel2 := Lib.hid (hbel.out.trans (hb2.mono hsz))
        obtain ⟨⟨z0, z1, z2, z3⟩, f0, f1, f2, f3⟩ := Z0.out _ hbel2.out
        clear hb2 hno
        go_wp2_with fail
        refine bodyPost_ret (v := .tuple #[cmdV 0 0 0 (.slice none 0 0), .bool false]) (by simp [results, Try.results11, go_sem, z0, z1, z2, z3]) rfl ⟨?_, 0, 0, 0, none, 0, 0, Or.inr ⟨HN.out, rfl⟩⟩
        exact ((((E1.out _ hbel2.out).setCell (by simp) _).setCell (by simp) _).setCell (by simp) _).setCell (by simp) _
    · obtain ⟨k, y, l, n, rfl⟩ : ∃ k y l n, L = [k, y, l, n] := by
        match L, (show L.length = 4 by omega) with
        | [k, y, l, n], _ => exact ⟨k, y, l, n, rfl⟩
      obtain ⟨G, rfl, hG, hcc⟩ := hcell (by simp)
      have c0 : wr.cell? ⟨G, 0, none⟩ = some (.int .i64 k) := hcc 0 (by simp)
      have c1 : wr.cell? ⟨G, 1, none⟩ = some (.int .i64 y) := hcc 1 (by simp)
      have c2 : wr.cell? ⟨G, 2, none⟩ = some (.int .i64 l) := hcc 2 (by simp)
      have c3 : wr.cell? ⟨G, 3, none⟩ = some (.int .i64 n) := hcc 3 (by simp)
      have hGs : G < wr.heap.size := cell_lt c0
      have hsz : w.heap.size + 1 ≤ wr.heap.size := by have := hbel.out.size; rw [HS0.out] at this; exact this
      clear hown hcl hnil hgb hcell hcc h4 hL4
      by_cases hn : n < 0 ∨ 16 < n
      · have HN := Lib.hid (noCmd_count hbs.out.1 hn)
        have hn2 : n < 0 ∨ (0 ≤ n ∧ 16 < n) := by omega
        clear hn
        rcases hn2 with hn | ⟨hn, hn'⟩
        all_goals
          go_wp2_with fail
          refine bodyPost_ret (v := .tuple #[cmdV 0 0 0 (.slice none 0 0), .bool false]) (by simp [results, Try.results11, go_sem, z0, z1, z2, z3]) rfl ⟨?_, 0, 0, 0, none, 0, 0, Or.inr ⟨HN.out, rfl⟩⟩
          exact ((((E1.out _ hbel.out).setCell (by simp) _).setCell (by simp) _).setCell (by simp) _).setCell (by simp) _
      · have n0 : 0 ≤ n := by omega
        have n1 : n ≤ 16 := by omega
        clear hn
        go_wp2_with fail
        go_region
        go_wp2_with fail
        obtain ⟨W8, rfl⟩ : ∃ W8, W8 = wr := ⟨_, rfl⟩
        obtain ⟨WB, hWB⟩ : ∃ WB, WB = (W8.alloc (Obj.cells #[.int .i64 k, .int .i64 y, .int .i64 l, .slice none 0 0] 24)).drew := ⟨_, rfl⟩
        have hCA : CmdAt W8.heap.size k y l (.slice none 0 0) WB := by rw [hWB]; exact (CmdAt.new W8 k y l _).call (Below.drew (Below.refl _ _))
        have hBW : Below W8.heap.size W8 WB := by rw [hWB]; exact ((Below.refl _ _).alloc (Nat.le_refl _) _).drew
        rw [← hWB]
        clear hWB
        have hWs : W8.heap.size + 1 ≤ WB.heap.size := hCA.lt
        have HGC : Hid (∀ W, Below W8.heap.size WB W → W.cell? ⟨G, 3, none⟩ = some (.int .i64 n)) := fun W hW => by rw [(hBW.trans hW).cell (p := ⟨G, 3, none⟩) hGs]; exact c3
        have HE : Hid (∀ W, Below W8.heap.size WB W → Below w.heap.size w W) := fun W hW => E1.out W (hbel.out.trans ((hBW.trans hW).mono hsz))
        have HZ : Hid (∀ W, Below W8.heap.size WB W → Below (w.heap.size + 1) W0 W) := fun W hW => hbel.out.trans ((hBW.trans hW).mono hsz)
        have HCA := Lib.hid hCA
        have HN64 : Hid (i64 k ∧ i64 y ∧ i64 l) := ⟨hbs.out.2 k (by simp), hbs.out.2 y (by simp), hbs.out.2 l (by simp)⟩
        clear hCA hBW c0 c1 c2 c3 z0 z1 z2 z3 f0 f1 f2 f3
        go_loopw [5] (fun i wr2 => ∃ (N : List Int) (r2 : List Nat) (v : Value), i = .int .i64 (((allB (k :: y :: l :: n :: N)).length : Nat) : Int) ∧ wr2.ownsRow (W8.heap.size + 1) 2 1 v N.length (N.map iv) ∧ (N.length : Int) ≤ n ∧
            Hid (bs = allB (k :: y :: l :: n :: N) ++ r2 ∧ ∀ m ∈ N, i64 m) ∧ Hid (CmdAt W8.heap.size k y l v wr2) ∧ Hid (Below W8.heap.size WB wr2)) (fun i _ => len - (RowKit.intOf i).toNat)
        case atStart => exact ⟨[], rest, _, by rw [HP.out], World.ownsRow_nil _ _ _ _, by simpa using n0, ⟨hbs.out.1, fun m hm => by cases hm⟩, HCA, Below.refl _ _⟩
        case round =>
          obtain ⟨N, r2, v, rfl, hown, hNn, hb2, hca, hbl⟩ := hrel
          obtain ⟨g, cp2, rfl, -, -, hcp2, -, -⟩ := own_ints hown
          obtain ⟨q0, q1, q2, q3, qf, qlt⟩ := hca.out
          have c3 := HGC.out _ hbl.out
          have hpl2 : (allB (k :: y :: l :: n :: N)).length ≤ len := by have h1 := hb2.out.1; have h2 := HL.out; rw [h1, List.length_append] at h2; omega
          have hdr : bs.drop (allB (k :: y :: l :: n :: N)).length = r2 := by rw [hb2.out.1, List.drop_left]
          obtain ⟨p2, hp2⟩ : ∃ p2, (allB (k :: y :: l :: n :: N)).length = p2 := ⟨_, rfl⟩
          rw [hp2] at hpl2 hdr
          rw [hp2]
          have HP2 := Lib.hid hp2
          have HDR2 := Lib.hid hdr
          have HO := Lib.hid hown
          clear hp2 hdr hown
          by_cases hlt : (N.length : Int) < n
          · go_wp2_with fail
            go_quiet (fail)
            have hb3 := Lib.hid (below_drewN hbl.out nq)
            go_wp2_with fail
            refine (refRead_any a len cap bs p2 _ (HB.out _ (HE.out _ hb3.out)) H256.out hpl2 hlen hcap HM.out).mono ?_
            rintro e w4 ⟨hb4, ⟨x, r, h64, hl, rfl⟩ | ⟨hno, rfl⟩⟩
            · rw [HDR2.out] at hl
              have hca4 := Lib.hid (hca.out.call ((below_drewN (Below.refl _ _) nq).trans hb4))
              have hbl4 := Lib.hid (hb3.out.trans (hb4.mono (show W8.heap.size ≤ wr.heap.size by omega)))
              have HO4 : Hid (w4.ownsRow (W8.heap.size + 1) 2 1 (.slice g N.length cp2) N.length (N.map iv)) := ownsRow_upB HO.out ((below_drewN (Below.refl _ wr) nq).trans hb4)
              have HX := Lib.hid (And.intro h64 hl)
              have hx1 := (numB_len h64).1
              have hx2 : p2 + (numB x).length ≤ len := by have h1 := hb2.out.1; have h2 := HL.out; rw [h1, hl, List.length_append, List.length_append, HP2.out] at h2; omega
              have t1 : (0 : Int) ≤ ((p2 + (numB x).length : Nat) : Int) := by omega
              have M3 : Hid (N.length + 1 ≤ maxLen) := by show N.length + 1 ≤ maxLen; simp only [maxLen]; omega
              obtain ⟨s0, s1, s2, s3, sf, slt⟩ := hca4.out
              clear hb4 h64 hl HO q0 q1 q2 q3 qf
              go_wp2_with (at_builtin; refine wpList_append_cells rfl (.tmp 66) (.tmp 68) 22 rfl (W8.heap.size + 1) Ti64 _ N.length (N.map iv) rfl (HO4.out.alloc _) (some ⟨_, 0, none⟩) 1 1 [iv x] rfl (fun h => by cases h) (one_new _ _ _) (iv_one [x]) M3.out (by omega) (Nat.le_trans slt (by simp)) ?_; intro v1 w5 o5 q5 r5 l5; rw [iv_snoc] at o5; have hup : Below (W8.heap.size + 1) w4 w5 := ((Below.refl _ w4).alloc slt _).grown q5 (Nat.le_trans slt (by simp)) (fun z hz => (HO4.out.lt z hz).1); have hca5 := Lib.hid (hca4.out.upTo hup); have hbl5 := Lib.hid (hbl4.out.trans (hup.mono (by omega))); obtain ⟨s0, s1, s2, s3, sf, slt'⟩ := hca5.out; obtain ⟨g1, cp1, rfl, -⟩ := own_ints o5)
              go_roundw
              case rel => exact ⟨N ++ [x], r, _, by rw [show k :: y :: l :: n :: (N ++ [x]) = (k :: y :: l :: n :: N) ++ [x] from rfl, allB_snoc, List.length_append, HP2.out]; go_num, by simpa using ownsRow_setCell_below (a := ⟨W8.heap.size, 3, none⟩) o5 (Nat.lt_succ_self _) _, by simp; omega,
                ⟨by rw [show k :: y :: l :: n :: (N ++ [x]) = (k :: y :: l :: n :: N) ++ [x] from rfl, allB_snoc, List.append_assoc, ← HX.out.2]; exact hb2.out.1, fun m hm => by
                  rcases List.mem_append.1 hm with h | h
                  · exact hb2.out.2 m h
                  · rw [List.mem_singleton.1 h]; exact HX.out.1⟩, hca5.out.set _, hbl5.out.setCell (Nat.le_refl _) _⟩
              case measure => simp [RowKit.intOf]; omega
            · rw [HDR2.out] at hno
              have HN := Lib.hid (noCmd_short hb2.out.1 hno (Or.inr ⟨k, y, l, n, N, rfl, hlt⟩))
              have hbl4 := Lib.hid (hb3.out.trans (hb4.mono (show W8.heap.size ≤ wr.heap.size by omega)))
              obtain ⟨⟨z0, z1, z2, z3⟩, f0, f1, f2, f3⟩ := Z0.out _ (HZ.out _ hbl4.out)
              clear hb4 hno
              go_wp2_with fail
              refine bodyPost_ret (v := .tuple #[cmdV 0 0 0 (.slice none 0 0), .bool false]) (by simp [results, Try.results11, go_sem, z0, z1, z2, z3]) rfl ⟨?_, 0, 0, 0, none, 0, 0, Or.inr ⟨HN.out, rfl⟩⟩
              exact ((((HE.out _ hbl4.out).setCell (by simp) _).setCell (by simp) _).setCell (by simp) _).setCell (by simp) _
          · have hNe : (N.length : Int) = n := by omega
            have HNE := Lib.hid hNe
            obtain ⟨⟨z0, z1, z2, z3⟩, f0, f1, f2, f3⟩ := Z0.out _ (HZ.out _ hbl.out)
            obtain ⟨ok, hok⟩ : ∃ ok, ((p2 : Int) == (len : Int)) = ok := ⟨_, rfl⟩
            have HOK := Lib.hid hok
            clear hNe
            go_wp2_with fail
            go_quiet (fail)
            go_wp2_with fail
            have hfin : Hid ((ok = true ∧ bs = putB k y l N) ∨ (ok = false ∧ NoCmd bs)) := by
              have hlen2 : p2 + r2.length = len := by have h1 := hb2.out.1; have h2 := HL.out; rw [h1, List.length_append, HP2.out] at h2; exact h2
              cases ok with
              | true =>
                have he := HOK.out
                simp only [beq_iff_eq] at he
                have : r2 = [] := List.eq_nil_of_length_eq_zero (by omega)
                rw [this, List.append_nil] at hb2
                exact Or.inl ⟨rfl, isCmd hb2.out.1 HNE.out⟩
              | false =>
                have he := HOK.out
                simp only [beq_eq_false_iff_ne] at he
                exact Or.inr ⟨rfl, noCmd_rest hb2.out.1 HNE.out (fun h => he (by rw [h] at hlen2; simp at hlen2; omega))⟩
            have h16 : N.length ≤ 16 := by omega
            refine bodyPost_ret (v := .tuple #[cmdV k y l (.slice g N.length cp2), .bool ok]) (by simp [results, Try.results11, go_sem, z0, z1, z2, z3]) rfl ⟨?_, k, y, l, g, N.length, cp2, ?_⟩
            · exact ((((HE.out _ (below_drewN hbl.out nq)).setCell (by simp) _).setCell (by simp) _).setCell (by simp) _).setCell (by simp) _
            · rcases hfin.out with ⟨h1, h2⟩ | ⟨h1, h2⟩
              · refine Or.inl ⟨N, ⟨HN64.out.1, HN64.out.2.1, HN64.out.2.2, h16, hb2.out.2⟩, h2, ?_, by rw [h1]⟩
                refine own_elems (B := W8.heap.size + 1) (cap := cp2) ?_ (fun z hz => hb2.out.2 z hz)
                have hO2 : (wr.drewN nq).ownsRow (W8.heap.size + 1) 2 1 (.slice g N.length cp2) N.length (N.map iv) := ownsRow_upB HO.out (below_drewN (Below.refl _ wr) nq)
                have hlt8 : w.heap.size < W8.heap.size + 1 := by omega
                exact ownsRow_setCell_below (ownsRow_setCell_below (ownsRow_setCell_below (ownsRow_setCell_below hO2 hlt8 _) hlt8 _) hlt8 _) hlt8 _
              · exact Or.inr ⟨h2, by rw [h1]⟩
end Go.Proofs.Ytbiggclekgpgeaa
