/- A journal that stands: what an append, a crash, and opening make of it. Plain. -/
import Derived.Test.YtehfbafocbcfnaaJrnNum
import Derived.Test.YtehfbafocbcfnaaDiskKeep
namespace Go.Proofs.Ytehfbafocbcfnaa
set_option linter.unusedVariables false

theorem head_inj {a b : Nat} (ha : a < 4294967296) (hb : b < 4294967296) (h : headN a = headN b) : a = b := by
  simp only [headN, List.cons.injEq] at h
  omega
theorem fndN_eq {bs : List Nat} {p n : Nat} (h : (bs.drop p).take 8 = headN n) (h1 : 1 ≤ n) (h2 : n ≤ 1024) : ∀ N, n ≤ N → N ≤ 1024 → fndN bs p N = n := by
  intro N
  induction N with
  | zero => intro h3; omega
  | succ N ih =>
    intro h3 h4
    simp only [fndN]
    rw [h]
    by_cases e : N + 1 = n
    · rw [if_pos (by rw [e]), e]
    · rw [if_neg fun h5 => e (head_inj (by omega) (by omega) h5)]
      exact ih (by omega) (by omega)
theorem fndN_none {bs : List Nat} {p : Nat} (h : ∀ k, 1 ≤ k → k ≤ 1024 → headN k ≠ (bs.drop p).take 8) : ∀ N, N ≤ 1024 → fndN bs p N = 0 := by
  intro N
  induction N with
  | zero => intro _; rfl
  | succ N ih =>
    intro h3
    simp only [fndN]
    rw [if_neg (h (N + 1) (by omega) h3)]
    exact ih (by omega)
theorem foundN_eq {bs : List Nat} {p n : Nat} (h : (bs.drop p).take 8 = headN n) (h1 : 1 ≤ n) (h2 : n ≤ 1024) (h3 : p + 8 + n ≤ bs.length) : foundN bs p = n :=
  fndN_eq h h1 h2 _ (by omega) (by omega)
theorem foundN_none {bs : List Nat} {p : Nat} (h : ∀ k, 1 ≤ k → k ≤ 1024 → headN k ≠ (bs.drop p).take 8) : foundN bs p = 0 := fndN_none h _ (by omega)

def RecOk (b : List Nat) : Prop := 1 ≤ b.length ∧ b.length ≤ 1024 ∧ ∀ x ∈ b, x < 256

theorem encN_len_ge (rs : List (List Nat)) : 8 * rs.length ≤ (encN rs).length := by
  induction rs with
  | nil => simp
  | cons b rs ih =>
    rw [show encN (b :: rs) = (headN b.length ++ b) ++ encN rs from rfl]
    simp only [List.length_append, headN_len, List.length_cons]
    omega

theorem scan_enc (pre tail : List Nat) (rs : List (List Nat)) (hr : ∀ b ∈ rs, RecOk b) (m : Nat) :
    scanN (pre ++ encN rs ++ tail) (rs.length + m) pre.length = (rs ++ (scanN (pre ++ encN rs ++ tail) m (pre.length + (encN rs).length)).1, (scanN (pre ++ encN rs ++ tail) m (pre.length + (encN rs).length)).2) := by
  induction rs generalizing pre with
  | nil => simp [encN]
  | cons b rs ih =>
    obtain ⟨h1, h2, -⟩ := hr b (by simp)
    have e : pre ++ encN (b :: rs) ++ tail = (pre ++ (headN b.length ++ b)) ++ encN rs ++ tail := by
      rw [show encN (b :: rs) = (headN b.length ++ b) ++ encN rs from rfl]; simp only [List.append_assoc]
    have ih := ih (pre ++ (headN b.length ++ b)) (fun x hx => hr x (by simp [hx]))
    rw [← e] at ih
    have hl : (pre ++ encN (b :: rs) ++ tail).length = pre.length + (8 + b.length + (encN rs).length) + tail.length := by
      rw [e]; simp only [List.length_append, headN_len]; omega
    have hd : (pre ++ encN (b :: rs) ++ tail).drop pre.length = headN b.length ++ (b ++ (encN rs ++ tail)) := by
      rw [e]; simp only [List.append_assoc]; rw [List.drop_left]
    have hf : foundN (pre ++ encN (b :: rs) ++ tail) pre.length = b.length :=
      foundN_eq (by rw [hd, List.take_append_of_le_length (by rw [headN_len]; exact Nat.le_refl _), List.take_of_length_le (by rw [headN_len]; exact Nat.le_refl _)]) h1 h2 (by omega)
    have hpl : (pre ++ (headN b.length ++ b)).length = pre.length + 8 + b.length := by simp only [List.length_append, headN_len]; omega
    have hen : (encN (b :: rs)).length = 8 + b.length + (encN rs).length := by
      rw [show encN (b :: rs) = (headN b.length ++ b) ++ encN rs from rfl]; simp only [List.length_append, headN_len]
    have ht : ((pre ++ encN (b :: rs) ++ tail).drop (pre.length + 8)).take b.length = b := by
      rw [← List.drop_drop, hd, List.drop_append_of_le_length (by rw [headN_len]; exact Nat.le_refl _), List.drop_of_length_le (by rw [headN_len]; exact Nat.le_refl _), List.nil_append, List.take_left]
    rw [show (b :: rs).length + m = (rs.length + m) + 1 by simp; omega]
    conv => lhs; unfold scanN
    rw [hf, if_pos ⟨by omega, by omega⟩, ht]
    rw [hpl] at ih
    rw [ih, hen, show pre.length + 8 + b.length + (encN rs).length = pre.length + (8 + b.length + (encN rs).length) by omega]
    rfl

theorem scan_stop {bs : List Nat} {p : Nat} (h : p + 8 < bs.length → foundN bs p = 0) (m : Nat) : scanN bs m p = ([], p) := by
  cases m with
  | zero => rfl
  | succ m =>
    unfold scanN
    rw [if_neg]
    exact fun ⟨h1, h2⟩ => h2 (h h1)

theorem scan_lay (rs : List (List Nat)) (tail : List Nat) (hr : ∀ b ∈ rs, RecOk b) (ht : ∀ k, 1 ≤ k → k ≤ 1024 → headN k ≠ tail.take 8) :
    recsOf (encN rs ++ tail) = rs ∧ endOf (encN rs ++ tail) = (encN rs).length := by
  have h := fun m => scan_enc [] tail rs hr m
  simp only [List.nil_append, List.length_nil, Nat.zero_add] at h
  have hge := encN_len_ge rs
  have hs := scan_stop (bs := encN rs ++ tail) (p := (encN rs).length) (fun _ => foundN_none (by rw [List.drop_left]; exact ht))
  obtain ⟨m, hm⟩ : ∃ m, (encN rs ++ tail).length = rs.length + m := ⟨(encN rs ++ tail).length - rs.length, by rw [List.length_append]; omega⟩
  unfold recsOf endOf
  rw [hm, h m, hs]
  simp

theorem zero_no_head {l : List Nat} (h : l.getD 0 0 = 0 ∧ l.getD 4 0 = 0) : ∀ k, 1 ≤ k → k ≤ 1024 → headN k ≠ l := by
  intro k h1 h2 e
  subst e
  simp only [headN, List.getD, List.getElem?_cons_zero, List.getElem?_cons_succ, Option.getD_some] at h
  omega

/-- of a head that is written in part: it is the head, or none -/
theorem torn_head {n : Nat} (hn : n < 4294967296) {l : List Nat} (hl : l.length = 8) (h : ∀ j, j < 8 → l.getD j 0 = 0 ∨ l.getD j 0 = (headN n).getD j 0) : l = headN n ∨ ∀ k, 1 ≤ k → k ≤ 1024 → headN k ≠ l := by
  by_cases he : l = headN n
  · exact Or.inl he
  · refine Or.inr fun k h1 h2 e => he ?_
    subst e
    have g0 := h 0 (by omega); have g1 := h 1 (by omega); have g2 := h 2 (by omega); have g3 := h 3 (by omega)
    have g4 := h 4 (by omega); have g5 := h 5 (by omega); have g6 := h 6 (by omega); have g7 := h 7 (by omega)
    simp only [headN, List.getD, List.getElem?_cons_zero, List.getElem?_cons_succ, Option.getD_some] at g0 g1 g2 g3 g4 g5 g6 g7
    have e0 : k % 256 = n % 256 := by omega
    have e1 : k / 256 % 256 = n / 256 % 256 := by omega
    have e2 : k / 65536 % 256 = n / 65536 % 256 := by omega
    have e3 : k / 16777216 % 256 = n / 16777216 % 256 := by omega
    unfold headN
    rw [e0, e1, e2, e3]

theorem putN_app (A Z bs : List Nat) (h : bs.length ≤ Z.length) : putN (A ++ Z) A.length bs bs.length = A ++ (bs ++ Z.drop bs.length) := by
  refine List.ext_getElem (by rw [putN_len]; simp; omega) fun j h1 h2 => ?_
  have hg := putN_get (A ++ Z) A.length bs bs.length (by rw [List.length_append]; omega) j
  rw [elem_getD h1, hg, elem_getD h2]
  simp only [List.getD_eq_getElem?_getD]
  by_cases c1 : j < A.length
  · rw [if_neg (by omega), List.getElem?_append_left c1, List.getElem?_append_left c1]
  · by_cases c2 : j < A.length + bs.length
    · rw [if_pos ⟨by omega, c2⟩, List.getElem?_append_right (by omega), List.getElem?_append_left (by omega)]
    · rw [if_neg (by omega), List.getElem?_append_right (by omega), List.getElem?_append_right (by omega), List.getElem?_append_right (by omega), List.getElem?_drop]
      congr 2
      omega

structure Good (n : Nat) (s : Dsk) (r : Jr) : Prop where
  bad : r.bad = false
  fin : r.fin = (encN r.recs).length
  room : r.fin ≤ 64 * n
  nw : s.nw = encN r.recs ++ List.replicate (64 * n - r.fin) 0
  st : s.st = s.nw
  di : s.di = List.replicate n false
  recs : ∀ b ∈ r.recs, RecOk b

theorem zeros_get (m j : Nat) : (List.replicate m 0).getD j 0 = 0 := by
  simp only [List.getD_eq_getElem?_getD, List.getElem?_replicate]
  split <;> rfl
theorem zeros_no_head (m : Nat) : ∀ k, 1 ≤ k → k ≤ 1024 → headN k ≠ (List.replicate m 0).take 8 :=
  zero_no_head ⟨by rw [List.take_replicate]; exact zeros_get _ _, by rw [List.take_replicate]; exact zeros_get _ _⟩

theorem good_zero (n : Nat) : Good n (Dsk.zero n) ⟨[], 0, false⟩ :=
  ⟨rfl, rfl, Nat.zero_le _, by simp [Dsk.zero, encN], rfl, rfl, fun b hb => by cases hb⟩

theorem odd_zeros (A : List Nat) (m : Nat) : oddN (A ++ List.replicate m 0) A.length = false := by
  unfold oddN; rw [List.drop_left]; simp
theorem odd_none {l : List Nat} (h : (l.any (· != 0)) = false) : l = List.replicate l.length 0 := by
  refine List.eq_replicate_iff.2 ⟨rfl, fun b hb => ?_⟩
  have := List.any_eq_false.1 h b hb
  simpa using this

/-- what is opened stands -/
theorem good_opened {n : Nat} {t : Dsk} {rs : List (List Nat)} {tail : List Nat} (hst : t.st = t.nw) (hdi : t.di = List.replicate n false) (hl : t.nw.length = 64 * n) (hnw : t.nw = encN rs ++ tail)
    (hr : ∀ b ∈ rs, RecOk b) (ht : ∀ k, 1 ≤ k → k ≤ 1024 → headN k ≠ tail.take 8) : Good n (openS t) (openR t) ∧ openR t = ⟨rs, (encN rs).length, false⟩ := by
  obtain ⟨h1, h2⟩ := scan_lay rs tail hr ht
  rw [← hnw] at h1 h2
  have hR : openR t = ⟨rs, (encN rs).length, false⟩ := by unfold openR; rw [h1, h2]
  have hlen : (encN rs).length + tail.length = 64 * n := by rw [← List.length_append, ← hnw, hl]
  refine ⟨?_, hR⟩
  rw [hR]
  unfold openS
  rw [h2]
  by_cases ho : oddN t.nw (encN rs).length = true
  · rw [if_pos ho]
    have e : (t.write (encN rs).length (List.replicate (t.nw.length - (encN rs).length) 0)).nw = encN rs ++ List.replicate (64 * n - (encN rs).length) 0 := by
      show putN t.nw _ _ _ = _
      rw [hl, hnw, putN_app _ _ _ (by simp; omega), List.drop_of_length_le (by simp; omega), List.append_nil]
    refine ⟨rfl, rfl, by show (encN rs).length ≤ _; omega, e, rfl, ?_, hr⟩
    show List.replicate (t.write _ _).di.length false = _
    rw [show (t.write (encN rs).length (List.replicate (t.nw.length - (encN rs).length) 0)).di.length = n by show (dirN t.di _ _).length = n; rw [dirN_len, hdi, List.length_replicate]]
  · rw [if_neg ho]
    refine ⟨rfl, rfl, by show (encN rs).length ≤ _; omega, ?_, hst, hdi, hr⟩
    have hz : tail.any (· != 0) = false := by
      have : oddN t.nw (encN rs).length = tail.any (· != 0) := by unfold oddN; rw [hnw, List.drop_left]
      rw [← this]; simpa using ho
    have := odd_none hz
    show t.nw = encN rs ++ List.replicate (64 * n - (encN rs).length) 0
    rw [hnw, show 64 * n - (encN rs).length = tail.length by omega, ← this]

theorem Good.len {n : Nat} {s : Dsk} {r : Jr} (h : Good n s r) : s.nw.length = 64 * n := by
  have h1 := h.room; have h2 := h.fin
  rw [h.nw, List.length_append, List.length_replicate]
  omega
theorem Good.open' {n : Nat} {s : Dsk} {r : Jr} (h : Good n s r) : openS s = s ∧ openR s = r := by
  obtain ⟨h1, h2⟩ := good_opened h.st h.di h.len h.nw h.recs (zeros_no_head _)
  have hr : openR s = r := by rw [h2, ← h.fin]; cases r; simp at *; exact h.bad
  refine ⟨?_, hr⟩
  unfold openS
  rw [if_neg]
  have : endOf s.nw = (encN r.recs).length := by have := congrArg Jr.fin h2; exact this
  rw [this]
  have := odd_zeros (encN r.recs) (64 * n - r.fin)
  rw [← h.nw] at this
  rw [this]
  simp

/-- a crash of what stands -/
theorem crs_clean (st nw : List Nat) (n : Nat) (picks : List Int) (b : Nat) : crsN st nw (List.replicate n false) picks b = (st, 0) := by
  induction b with
  | zero => rfl
  | succ b ih =>
    simp only [crsN, ih]
    rw [if_neg]
    simp only [List.getD_eq_getElem?_getD, List.getElem?_replicate]
    split <;> simp
theorem Good.crash {n : Nat} {s : Dsk} {r : Jr} (h : Good n s r) (picks : List Int) : s.crash picks = s := by
  obtain ⟨st, nw, di⟩ := s
  have h1 := h.st; have h2 := h.di
  simp only at h1 h2
  subst h1 h2
  unfold Dsk.crash
  simp only [crs_clean, List.length_replicate]

/-- the bytes of a record are written, its head isn't -/
theorem Good.body {n : Nat} {s : Dsk} {r : Jr} (h : Good n s r) {b : List Nat} (hf : r.fin + 8 + b.length ≤ 64 * n) :
    putN s.nw (r.fin + 8) b b.length = encN r.recs ++ (List.replicate 8 0 ++ (b ++ List.replicate (64 * n - r.fin - 8 - b.length) 0)) := by
  have e : s.nw = (encN r.recs ++ List.replicate 8 0) ++ List.replicate (64 * n - r.fin - 8) 0 := by
    rw [h.nw, List.append_assoc, List.replicate_append_replicate, show 8 + (64 * n - r.fin - 8) = 64 * n - r.fin by omega]
  have hl : (encN r.recs ++ List.replicate 8 0).length = r.fin + 8 := by rw [List.length_append, List.length_replicate, h.fin]
  rw [e, ← hl, putN_app _ _ _ (by simp; omega), List.drop_replicate, List.append_assoc]
theorem Good.head {n : Nat} {s : Dsk} {r : Jr} (h : Good n s r) {b : List Nat} (hf : r.fin + 8 + b.length ≤ 64 * n) :
    putN (putN s.nw (r.fin + 8) b b.length) r.fin (headN b.length) 8 = encN r.recs ++ (headN b.length ++ (b ++ List.replicate (64 * n - r.fin - 8 - b.length) 0)) := by
  have h1 := putN_app (encN r.recs) (List.replicate 8 0 ++ (b ++ List.replicate (64 * n - r.fin - 8 - b.length) 0)) (headN b.length) (by simp [headN_len])
  rw [headN_len] at h1
  rw [h.body hf]
  conv => lhs; arg 2; rw [h.fin]
  rw [h1, List.drop_append_of_le_length (by simp), List.drop_of_length_le (by simp), List.nil_append]

theorem may_zero' {n : Nat} {r : Jr} {b : List Nat} (h : mayN n r b = 0) : r.bad = false ∧ 1 ≤ b.length ∧ b.length ≤ 1024 ∧ r.fin + 8 + b.length ≤ 64 * n := by
  unfold mayN at h
  cases hb : r.bad
  · rw [hb, if_neg (by simp)] at h
    by_cases h1 : b.length < 1 ∨ 1024 < b.length
    · rw [if_pos h1] at h; omega
    · rw [if_neg h1] at h
      by_cases h2 : freeN n r < b.length
      · rw [if_pos h2] at h; omega
      · unfold freeN at h2
        rw [hb, if_neg (by simp)] at h2
        exact ⟨rfl, by omega, by omega, by omega⟩
  · rw [hb, if_pos rfl] at h; omega

theorem Good.append {n : Nat} {s : Dsk} {r : Jr} (h : Good n s r) {b : List Nat} (hm : mayN n r b = 0) (hb : ∀ x ∈ b, x < 256) : Good n (stgS s r b 4) (stgR r b 4) := by
  obtain ⟨-, h1, h2, h3⟩ := may_zero' hm
  have hnw : (stgS s r b 4).nw = encN (r.recs ++ [b]) ++ List.replicate (64 * n - (r.fin + 8 + b.length)) 0 := by
    show putN (putN s.nw (r.fin + 8) b b.length) r.fin (headN b.length) (headN b.length).length = _
    rw [headN_len, h.head h3, encN_snoc, show 64 * n - r.fin - 8 - b.length = 64 * n - (r.fin + 8 + b.length) by omega]
    simp only [List.append_assoc]
  have hdl : (((s.write (r.fin + 8) b).sync).write r.fin (headN b.length)).di.length = n := by
    show (dirN (List.replicate (dirN s.di _ _).length false) _ _).length = n
    rw [dirN_len, List.length_replicate, dirN_len, h.di, List.length_replicate]
  refine ⟨h.bad, ?_, h3, hnw, rfl, ?_, fun x hx => ?_⟩
  · show r.fin + 8 + b.length = (encN (r.recs ++ [b])).length
    rw [encN_snoc, List.length_append, List.length_append, headN_len, ← h.fin]; omega
  · show List.replicate (((s.write (r.fin + 8) b).sync).write r.fin (headN b.length)).di.length false = _
    rw [hdl]
  · rcases List.mem_append.1 hx with h' | h'
    · exact h.recs x h'
    · rw [List.mem_singleton.1 h']; exact ⟨h1, h2, hb⟩

/-- an append that a crash cut off, at any stage: what was there is there, and, if anything more, the whole of it -/
theorem Good.torn {n : Nat} {s : Dsk} {r : Jr} (h : Good n s r) {b : List Nat} (hm : mayN n r b = 0) (hb : ∀ x ∈ b, x < 256) (k : Int) (hk : k = 1 ∨ k = 2 ∨ k = 3) (picks : List Int) :
    Good n (openS ((stgS s r b k).crash picks)) (openR ((stgS s r b k).crash picks)) ∧ ((openR ((stgS s r b k).crash picks)).recs = r.recs ∨ (k = 3 ∧ (openR ((stgS s r b k).crash picks)).recs = r.recs ++ [b])) := by
  obtain ⟨-, h1, h2, h3⟩ := may_zero' hm
  have hdl : (stgS s r b k).di.length = n := by
    rcases hk with rfl | rfl | rfl
    · show (dirN s.di _ _).length = n
      rw [dirN_len, h.di, List.length_replicate]
    · show (List.replicate (dirN s.di _ _).length false).length = n
      rw [List.length_replicate, dirN_len, h.di, List.length_replicate]
    · show (dirN (List.replicate (dirN s.di _ _).length false) _ _).length = n
      rw [dirN_len, List.length_replicate, dirN_len, h.di, List.length_replicate]
  obtain ⟨Z, hZ⟩ : ∃ Z, b ++ List.replicate (64 * n - r.fin - 8 - b.length) 0 = Z := ⟨_, rfl⟩
  have hZl : Z.length = 64 * n - r.fin - 8 := by rw [← hZ, List.length_append, List.length_replicate]; omega
  have hbody := h.body (b := b) h3
  have hhead := h.head (b := b) h3
  rw [hZ] at hbody hhead
  -- what stands, and what was written last
  have hst : (stgS s r b k).st = encN r.recs ++ (List.replicate 8 0 ++ Z) ∨ (k = 1 ∧ (stgS s r b k).st = encN r.recs ++ List.replicate (64 * n - r.fin) 0) := by
    rcases hk with rfl | rfl | rfl
    · exact Or.inr ⟨rfl, by show s.st = _; rw [h.st, h.nw]⟩
    · exact Or.inl hbody
    · exact Or.inl hbody
  have hnw : ((k = 1 ∨ k = 2) ∧ (stgS s r b k).nw = encN r.recs ++ (List.replicate 8 0 ++ Z)) ∨ (k = 3 ∧ (stgS s r b k).nw = encN r.recs ++ (headN b.length ++ Z)) := by
    rcases hk with rfl | rfl | rfl
    · exact Or.inl ⟨Or.inl rfl, hbody⟩
    · exact Or.inl ⟨Or.inr rfl, hbody⟩
    · exact Or.inr ⟨rfl, by show putN (putN s.nw _ _ _) _ _ (headN b.length).length = _; rw [headN_len]; exact hhead⟩
  have hstl : (stgS s r b k).st.length = 64 * n := by
    have := h.room; have := h.fin
    rcases hst with e | ⟨-, e⟩ <;> rw [e] <;> simp only [List.length_append, List.length_replicate] <;> omega
  obtain ⟨T, hT⟩ : ∃ T, ((stgS s r b k).crash picks).nw = T := ⟨_, rfl⟩
  have hTl : T.length = 64 * n := by rw [← hT]; show (crsN _ _ _ _ _).1.length = _; rw [crsN_len, hstl]
  have hor : ∀ j, T.getD j 0 = (stgS s r b k).st.getD j 0 ∨ T.getD j 0 = (stgS s r b k).nw.getD j 0 := fun j => by
    rw [← hT]; exact crsN_or _ _ _ _ _ (by rw [hdl, hstl]; exact Nat.le_refl _) j
  have hf := h.fin
  -- what lies ahead of the new record stays
  have hpre : ∀ j, j < r.fin → T.getD j 0 = (encN r.recs).getD j 0 := fun j hj => by
    have e1 : (stgS s r b k).st.getD j 0 = (encN r.recs).getD j 0 := by
      rcases hst with e | ⟨-, e⟩ <;> rw [e] <;> simp only [List.getD_eq_getElem?_getD] <;> rw [List.getElem?_append_left (by omega)]
    have e2 : (stgS s r b k).nw.getD j 0 = (encN r.recs).getD j 0 := by
      rcases hnw with ⟨-, e⟩ | ⟨-, e⟩ <;> rw [e] <;> simp only [List.getD_eq_getElem?_getD] <;> rw [List.getElem?_append_left (by omega)]
    rcases hor j with e | e
    · rw [e, e1]
    · rw [e, e2]
  have hsplit : T = encN r.recs ++ T.drop r.fin := by
    conv => lhs; rw [← List.take_append_drop r.fin T]
    congr 1
    refine List.ext_getElem (by rw [List.length_take, hf]; omega) fun j j1 j2 => ?_
    rw [elem_getD j1, elem_getD j2, ← hpre j (by omega)]
    simp only [List.getD_eq_getElem?_getD]
    rw [List.getElem?_take_of_lt (by omega)]
  have hcl : ((stgS s r b k).crash picks).st = ((stgS s r b k).crash picks).nw := rfl
  have hcd : ((stgS s r b k).crash picks).di = List.replicate n false := by show List.replicate (stgS s r b k).di.length false = _; rw [hdl]
  have hst8 : ∀ j, j < 8 → (stgS s r b k).st.getD (r.fin + j) 0 = 0 := fun j hj => by
    rcases hst with e | ⟨-, e⟩ <;> rw [e] <;> simp only [List.getD_eq_getElem?_getD] <;> rw [List.getElem?_append_right (by omega)]
    · rw [List.getElem?_append_left (by rw [List.length_replicate]; omega)]
      exact zeros_get 8 _
    · exact zeros_get _ _
  have h8 : ∀ j, j < 8 → ((T.drop r.fin).take 8).getD j 0 = 0 ∨ (k = 3 ∧ ((T.drop r.fin).take 8).getD j 0 = (headN b.length).getD j 0) := fun j hj => by
    rw [slice_get T r.fin 8 j hj]
    rcases hor (r.fin + j) with e | e
    · exact Or.inl (by rw [e, hst8 j hj])
    · rw [e]
      rcases hnw with ⟨-, e2⟩ | ⟨h3', e2⟩
      · refine Or.inl ?_
        rw [e2]
        simp only [List.getD_eq_getElem?_getD]
        rw [List.getElem?_append_right (by omega), List.getElem?_append_left (by rw [List.length_replicate]; omega)]
        exact zeros_get 8 _
      · refine Or.inr ⟨h3', ?_⟩
        rw [e2]
        simp only [List.getD_eq_getElem?_getD]
        rw [List.getElem?_append_right (by omega), List.getElem?_append_left (by rw [headN_len]; omega), ← hf, Nat.add_sub_cancel_left]
  have hlen8 : ((T.drop r.fin).take 8).length = 8 := by rw [List.length_take, List.length_drop]; omega
  have none : (∀ m, 1 ≤ m → m ≤ 1024 → headN m ≠ (T.drop r.fin).take 8) → Good n (openS ((stgS s r b k).crash picks)) (openR ((stgS s r b k).crash picks)) ∧ (openR ((stgS s r b k).crash picks)).recs = r.recs := fun hno => by
    obtain ⟨q1, q2⟩ := good_opened (rs := r.recs) (tail := T.drop r.fin) hcl hcd (by rw [hT, hTl]) (by rw [hT]; exact hsplit) h.recs hno
    exact ⟨q1, by rw [q2]⟩
  by_cases hk3 : k = 3
  · rcases torn_head (n := b.length) (by omega) hlen8 (fun j hj => (h8 j hj).imp id (·.2)) with he | hno
    · -- the whole head is there: so is the record
      have hnw3 : (stgS s r b k).nw = encN r.recs ++ (headN b.length ++ Z) := by
        rcases hnw with ⟨h', -⟩ | ⟨-, e⟩
        · omega
        · exact e
      have hst3 : (stgS s r b k).st = encN r.recs ++ (List.replicate 8 0 ++ Z) := by
        rcases hst with e | ⟨h', -⟩
        · exact e
        · omega
      have hrest : (T.drop r.fin).drop 8 = Z := by
        refine List.ext_getElem (by rw [List.length_drop, List.length_drop]; omega) fun j j1 j2 => ?_
        rw [elem_getD j1, elem_getD j2]
        have e0 : ((T.drop r.fin).drop 8).getD j 0 = T.getD (r.fin + 8 + j) 0 := by
          simp only [List.getD_eq_getElem?_getD, List.getElem?_drop]
          rw [show r.fin + (8 + j) = r.fin + 8 + j by omega]
        rw [e0]
        have e1 : (stgS s r b k).st.getD (r.fin + 8 + j) 0 = Z.getD j 0 := by
          rw [hst3]; simp only [List.getD_eq_getElem?_getD]
          rw [List.getElem?_append_right (by omega), List.getElem?_append_right (by rw [List.length_replicate]; omega), List.length_replicate]
          congr 2; omega
        have e2 : (stgS s r b k).nw.getD (r.fin + 8 + j) 0 = Z.getD j 0 := by
          rw [hnw3]; simp only [List.getD_eq_getElem?_getD]
          rw [List.getElem?_append_right (by omega), List.getElem?_append_right (by rw [headN_len]; omega), headN_len]
          congr 2; omega
        rcases hor (r.fin + 8 + j) with e | e
        · rw [e, e1]
        · rw [e, e2]
      have hT3 : T = encN (r.recs ++ [b]) ++ List.replicate (64 * n - r.fin - 8 - b.length) 0 := by
        rw [hsplit, encN_snoc, List.append_assoc]
        congr 1
        conv => lhs; rw [← List.take_append_drop 8 (T.drop r.fin)]
        rw [he, hrest, ← hZ, List.append_assoc]
      obtain ⟨q1, q2⟩ := good_opened (rs := r.recs ++ [b]) (tail := List.replicate (64 * n - r.fin - 8 - b.length) 0) hcl hcd (by rw [hT, hTl]) (by rw [hT]; exact hT3) (fun x hx => by
        rcases List.mem_append.1 hx with h' | h'
        · exact h.recs x h'
        · rw [List.mem_singleton.1 h']; exact ⟨h1, h2, hb⟩) (zeros_no_head _)
      exact ⟨q1, Or.inr ⟨hk3, by rw [q2]⟩⟩
    · exact ⟨(none hno).1, Or.inl (none hno).2⟩
  · have hno := zero_no_head (l := (T.drop r.fin).take 8) ⟨(h8 0 (by omega)).resolve_right fun h' => hk3 h'.1, (h8 4 (by omega)).resolve_right fun h' => hk3 h'.1⟩
    exact ⟨(none hno).1, Or.inl (none hno).2⟩
end Go.Proofs.Ytehfbafocbcfnaa
