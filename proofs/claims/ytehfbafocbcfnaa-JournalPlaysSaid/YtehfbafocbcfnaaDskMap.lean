/- A map of blocks: how its elements read, clear, len; its keys, sorted. -/
import Derived.Test.YtehfbafocbcfnaaDskPlain
import Derived.Test.YtehfbafocbcfnaaOnly
import Derived.Maps.OwnSet
import Derived.Lib.SlKeysI
import Derived.Lib.Hide
namespace Go.Proofs.Ytehfbafocbcfnaa
open Go Go.RowKit Go.Maps
set_option linter.unusedVariables false

def unb : Value → Nat
  | .int _ z => z.toNat
  | _ => 0
theorem unb_b8 (n : Nat) : unb (b8 n) = n := by simp [unb, b8]
theorem unb_map (l : List Nat) : (l.map b8).map unb = l := by
  rw [List.map_map]
  have : unb ∘ b8 = id := funext unb_b8
  rw [this, List.map_id]

/-- a block as a value -/
def aggB (bs : List Nat) : Value := .agg (bs.map b8).toArray
theorem aggB_cells (bs : List Nat) : (aggB bs).cells = (bs.map b8).toArray := rfl

open Classical in
/-- how a block's value reads -/
noncomputable def RB (v : Value) : Option (DataW (List Nat) × List MemPlace) :=
  if h : ∃ bs : List Nat, bs.length = 64 ∧ v = aggB bs then some (.held h.choose, []) else none

theorem aggB_inj {l r : List Nat} (h : aggB l = aggB r) : l = r := by
  have : l.map b8 = r.map b8 := by
    have := congrArg (fun v : Value => v.cells.toList) h
    simpa [aggB_cells] using this
  rw [← unb_map l, this, unb_map]
theorem RB_mk (bs : List Nat) (h : bs.length = 64) : RB (aggB bs) = some (.held bs, []) := by
  have hx : ∃ cs : List Nat, cs.length = 64 ∧ aggB bs = aggB cs := ⟨bs, h, rfl⟩
  unfold RB
  rw [dif_pos hx]
  have : hx.choose = bs := (aggB_inj hx.choose_spec.2).symm
  rw [this]
theorem RB_inv {v : Value} {z : DataW (List Nat) × List MemPlace} (h : RB v = some z) : ∃ bs : List Nat, bs.length = 64 ∧ v = aggB bs ∧ z = (.held bs, []) := by
  unfold RB at h
  split at h
  · rename_i hx
    cases h
    exact ⟨_, hx.choose_spec.1, hx.choose_spec.2, rfl⟩
  · cases h

theorem aggB_zero : aggB (List.replicate 64 0) = .agg (List.replicate 64 (Value.int .u8 0)).toArray := by simp [aggB, b8]

section
variable {P : Program} {k : TypeId} {H : Type} {R : Value → Option (DataW H × List MemPlace)} {w : World} {b n : Nat} {D : DataW H}

theorem ownsMap_only {F : Nat → Prop} {w' : World} (h : w.ownsMap P k R b n D) (ho : Only F w w') (hF : ¬ F b) : w'.ownsMap P k R b n D := by
  have hlt := h.lt
  obtain ⟨es, clock, hb, r⟩ := h
  exact ⟨es, clock, by rw [ho.block b hlt hF]; exact hb, r⟩
theorem ownsMap_exact (h : w.ownsMap P k R b n D) : w.ownsMap P k R b (Maps.size D) D := by
  obtain ⟨es, clock, hb, F, hs, rfl⟩ := h
  refine ⟨es, clock, hb, F, ?_, rfl⟩
  have := length_sorted (H := H) (es.toList.map (WideElems.rg P k R))
  show es.size ≤ ((es.toList.map (WideElems.rg P k R)).foldr DataW.insert []).length
  rw [this]; simp

theorem only_grown {F : Nat → Prop} {w' : World} (h : w.grownBy w' (some b)) (hF : F b) : Only F w w' :=
  ⟨h.os, h.tape, h.output, h.size, fun i hi hf => h.block i hi fun e => hf (by cases e; exact hF)⟩

/-- 'clear(m)' -/
theorem ownsMap_clear {t e : TypeId} (h : w.ownsMap P k R b n D) (ht : P.underlying t = some (.map k e)) (ty : TypeId) :
    ∃ w', (Builtin.clear_ #[t] ty #[.map (some b)]).run P w = .ok (.tuple #[]) w' ∧ w'.ownsMap P k R b 0 (.map []) ∧ w.grownBy w' (some b) := by
  obtain ⟨es, clock, hb, F, hs, rfl⟩ := h
  refine ⟨ChangeMaps.setBlock w b (.map #[] clock), ?_, ⟨#[], clock, ChangeMaps.heap_setBlock_same hb _, ⟨by simp, ?_, by simp⟩, Nat.le_refl _, rfl⟩, ⟨rfl, rfl, rfl, by simp [ChangeMaps.setBlock], fun i _ hi => ChangeMaps.heap_setBlock_other hb _ (fun e => hi (by rw [e]))⟩⟩
  · simp [Builtin.clear_, run_underlying ht, MapKept.run_getObj_map hb, MapKept.run_setObj_map _ hb, Result.andThen]
    rfl
  · exact MapKept.stamped_empty clock
end

/-- what the map holds: of each block that was written since, what stood -/
def MapIs (D : DataW (List Nat)) (n : Nat) (st : List Nat) (di : List Bool) : Prop :=
  (∀ kl, Maps.has D kl = true → ∃ b : Nat, b < n ∧ kl = .int .i64 (b : Int) ∧ di.getD b false = true) ∧
    ∀ b : Nat, b < n → di.getD b false = true → ∀ z, D.atKey (.int .i64 (b : Int)) z = .held (blk st b)

theorem MapIs.none (n : Nat) (st : List Nat) (di : List Bool) (h : ∀ b, b < n → ¬ di.getD b false = true) : MapIs (.map []) n st di :=
  by
  refine ⟨fun kl hk => ?_, fun b hb hd => absurd hd (h b hb)⟩
  have : Maps.has (.map [] : DataW (List Nat)) kl = false := rfl
  rw [this] at hk; cases hk
theorem MapIs.hasIt {D : DataW (List Nat)} {n : Nat} {st : List Nat} {di : List Bool} (h : MapIs D n st di) {b : Nat} (hb : b < n) : Maps.has D (.int .i64 (b : Int)) = di.getD b false := by
  cases hd : di.getD b false with
  | true => exact has_true_of_atKey (h.2 b hb hd)
  | false =>
    cases hh : Maps.has D (.int .i64 (b : Int)) with
    | false => rfl
    | true =>
      obtain ⟨c, hc, he, hdc⟩ := h.1 _ hh
      have : b = c := by simp at he; omega
      subst this
      rw [hd] at hdc; cases hdc
/-- one more block is kept -/
theorem MapIs.put {D : DataW (List Nat)} {n : Nat} {st : List Nat} {di : List Bool} (h : MapIs D n st di) (hD : IsMap D) (hl : di.length = n) {b : Nat} (hb : b < n) {bs : List Nat} (hbs : bs = blk st b) :
    MapIs (D.put (.int .i64 (b : Int)) (.held bs)) n st (di.set b true) := by
  subst hbs
  constructor
  · intro kl hh
    by_cases e : kl = .int .i64 (b : Int)
    · exact ⟨b, hb, e, by rw [set_get, if_pos ⟨rfl, by omega⟩]⟩
    · rw [has_put_other e] at hh
      obtain ⟨c, hc, he, hdc⟩ := h.1 kl hh
      refine ⟨c, hc, he, ?_⟩
      rw [set_get]
      split
      · rfl
      · exact hdc
  · intro c hc hdc z
    by_cases e : c = b
    · subst e
      exact atKey_put_same hD (by simp [WideAt.IsKeyLit]) _ _
    · rw [atKey_put_other (by simp; omega)]
      rw [set_get, if_neg (by omega)] at hdc
      exact h.2 c hc hdc z

/-- the keys, sorted -/
theorem MapIs.keys {P : Program} {k : TypeId} {R : Value → Option (DataW (List Nat) × List MemPlace)} {w : World} {g m : Nat} {D : DataW (List Nat)} {n : Nat} {st : List Nat} {di : List Bool} (h : MapIs D n st di) (hown : w.ownsMap P k R g m D) (hk : P.underlying k = some (.int .i64)) :
    (intKeys D).Perm ((ksN di n).map Int.ofNat) := by
  obtain ⟨es, hD, hpw, _⟩ := hown.entries (int_keyed hk)
  obtain ⟨es', hD', hko⟩ := hown.keysOf
  obtain rfl : es = es' := by rw [hD] at hD'; simpa using hD'
  subst hD
  refine (perm_intKeys hpw (fun p hp => by obtain ⟨v, hv⟩ := hko p hp; obtain ⟨x, _, hx, _⟩ := Maps.keyOf_i64 hk hv; exact ⟨x, hx⟩) ?_ fun x => ?_).symm
  · refine List.pairwise_map.2 ((ksN_sorted di n).imp fun {a b} hab e => ?_)
    have : a = b := Int.ofNat.inj e
    omega
  · rw [List.mem_map]
    constructor
    · rintro ⟨b, hb, rfl⟩
      have := (ksN_mem di n b).1 hb
      exact (h.hasIt this.1).trans this.2
    · intro hh
      obtain ⟨b, hb, he, hd⟩ := h.1 _ hh
      exact ⟨b, (ksN_mem di n b).2 ⟨hb, hd⟩, by simpa using he.symm⟩
theorem sorted_ksN (di : List Bool) (n : Nat) : ((ksN di n).map Int.ofNat).mergeSort leI = (ksN di n).map Int.ofNat := by
  refine List.mergeSort_of_pairwise ?_
  refine List.pairwise_map.2 ((ksN_sorted di n).imp fun {a b} hab => ?_)
  simp only [leI, decide_eq_true_eq]
  exact Int.ofNat_le.2 (Nat.le_of_lt hab)
theorem MapIs.sorted {P : Program} {k : TypeId} {R : Value → Option (DataW (List Nat) × List MemPlace)} {w : World} {g m : Nat} {D : DataW (List Nat)} {n : Nat} {st : List Nat} {di : List Bool} (h : MapIs D n st di) (hown : w.ownsMap P k R g m D) (hk : P.underlying k = some (.int .i64))
    {ss : List Int} (hS : ss.Perm (intKeys D)) : ss.mergeSort (fun x y => decide (x ≤ y)) = (ksN di n).map Int.ofNat :=
  (mergeSort_of_perm_i (hS.trans (h.keys hown hk))).trans (sorted_ksN di n)
theorem MapIs.size {P : Program} {k : TypeId} {R : Value → Option (DataW (List Nat) × List MemPlace)} {w : World} {g m : Nat} {D : DataW (List Nat)} {n : Nat} {st : List Nat} {di : List Bool} (h : MapIs D n st di) (hown : w.ownsMap P k R g m D) (hk : P.underlying k = some (.int .i64)) :
    Maps.size D = manyN di n := by
  have h1 := (h.keys hown hk).length_eq
  rw [List.length_map, ksN_len] at h1
  rw [← h1]
  obtain ⟨es, rfl⟩ := hown.isMap
  simp [Maps.size, intKeys]
end Go.Proofs.Ytehfbafocbcfnaa
