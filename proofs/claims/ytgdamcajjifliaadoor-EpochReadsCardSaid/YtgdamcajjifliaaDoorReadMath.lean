/-
  An epoch's text read back: by the library's numbers between the points, and by the reference's scan. Conditions: numbers such as their kinds hold.
-/
import Derived.Test.YtgdamcajjifliaaDoorRead
namespace Go.Proofs.YtgdamcajjifliaaDoor

/-! ### A numeral's value -/
def isDig (c : UInt8) : Prop := 48 ≤ c.toNat ∧ c.toNat ≤ 57
def valF (acc : Nat) (l : List UInt8) : Nat := l.foldl (fun a c => a * 10 + (c.toNat - 48)) acc

theorem valF_ge (l : List UInt8) : ∀ acc, acc ≤ valF acc l := by
  induction l with
  | nil => exact fun acc => Nat.le_refl _
  | cons c l ih =>
    intro acc
    have := ih (acc * 10 + (c.toNat - 48))
    simp only [valF, List.foldl_cons] at this ⊢
    omega

theorem dig_byte (d : Nat) (h : d < 10) : (UInt8.ofNat (48 + d)).toNat = 48 + d := by
  have : (48 + d) % 256 = 48 + d := Nat.mod_eq_of_lt (by omega)
  simp [this]

theorem dec_digs (n : Nat) : ∀ c ∈ Lib.decDigits n, isDig c := by
  induction n using Nat.strongRecOn with
  | ind n ih =>
    by_cases h : n < 10
    · rw [dec_lt n h]
      intro c hc
      simp only [List.mem_singleton] at hc
      subst hc
      unfold isDig
      rw [dig_byte n h]; omega
    · rw [dec_ge n h]
      intro c hc
      rcases List.mem_append.1 hc with hc | hc
      · exact ih (n / 10) (by omega) c hc
      · simp only [List.mem_singleton] at hc
        subst hc
        unfold isDig
        rw [dig_byte _ (by omega)]; omega

theorem dec_val (n : Nat) : valF 0 (Lib.decDigits n) = n := by
  induction n using Nat.strongRecOn with
  | ind n ih =>
    by_cases h : n < 10
    · rw [dec_lt n h]
      simp only [valF, List.foldl_cons, List.foldl_nil]
      rw [dig_byte n h]; omega
    · rw [dec_ge n h]
      have := ih (n / 10) (by omega)
      simp only [valF] at this ⊢
      rw [List.foldl_append, this]
      simp only [List.foldl_cons, List.foldl_nil]
      rw [dig_byte _ (by omega)]; omega

theorem dec_ne (n : Nat) : Lib.decDigits n ≠ [] := by
  by_cases h : n < 10
  · rw [dec_lt n h]; simp
  · rw [dec_ge n h]; simp

theorem parse_digs (M : Nat) (hM : 65535 ≤ M) (l : List UInt8) : ∀ acc, (∀ c ∈ l, isDig c) → valF acc l ≤ 65535 → Lib.parseUintM M acc l = .ok (valF acc l) := by
  induction l with
  | nil => exact fun acc _ _ => rfl
  | cons c l ih =>
    intro acc hd hv
    have hc := hd c (List.mem_cons_self ..)
    have hge := valF_ge l (acc * 10 + (c.toNat - 48))
    have hv' : valF (acc * 10 + (c.toNat - 48)) l ≤ 65535 := hv
    unfold Lib.parseUintM
    rw [if_pos (show 48 ≤ c.toNat ∧ c.toNat ≤ 57 from hc), if_neg (by omega), if_neg (by omega)]
    exact ih _ (fun d hd' => hd d (List.mem_cons_of_mem _ hd')) hv'

theorem numP_dec (n : Nat) (h : n ≤ 65535) : numP (Lib.decDigits n) = n := by
  unfold numP Lib.parseUintB
  rw [if_neg (dec_ne n), parse_digs _ (by decide) _ 0 (dec_digs n) (by rw [dec_val]; exact h), dec_val]

/-! ### Cut at the points -/
theorem cutA_app (a r : List UInt8) (h : ∀ c ∈ a, isDig c) : cutA (a ++ 46 :: r) = a := by
  induction a with
  | nil => simp [cutA]
  | cons c a ih =>
    have hc : c ≠ 46 := by
      have h2 := h c (List.mem_cons_self ..)
      unfold isDig at h2
      intro e; subst e; simp at h2
    simp only [List.cons_append, cutA, if_neg hc]
    rw [ih fun d hd => h d (List.mem_cons_of_mem _ hd)]
theorem cutB_app (a r : List UInt8) (h : ∀ c ∈ a, isDig c) : cutB (a ++ 46 :: r) = r := by
  induction a with
  | nil => simp [cutB]
  | cons c a ih =>
    have hc : c ≠ 46 := by
      have h2 := h c (List.mem_cons_self ..)
      unfold isDig at h2
      intro e; subst e; simp at h2
    simp only [List.cons_append, cutB, if_neg hc]
    exact ih fun d hd => h d (List.mem_cons_of_mem _ hd)

theorem text_list (e : Ep) : (textE e).data.toList = Lib.decDigits e.c ++ 46 :: (Lib.decDigits e.a ++ 46 :: Lib.decDigits e.i) := by
  unfold textE dgs dot
  rw [app_list, app_list, app_list, app_list]
  simp

/-- What the program reads of an epoch's text is that epoch. -/
theorem rd_text (e : Ep) (he : e.fit) : rd (textE e).data.toList = e := by
  obtain ⟨h1, h2, h3⟩ := he
  unfold rd
  rw [text_list, cutA_app _ _ (dec_digs _), cutB_app _ _ (dec_digs _), cutA_app _ _ (dec_digs _), cutB_app _ _ (dec_digs _), numP_dec _ h1, numP_dec _ (by omega), numP_dec _ h3]
  cases e
  simp only [Ep.mk.injEq] at *
  omega

/-! ### The reference's scan -/
def scan1 (x : List Nat × Nat) (c : UInt8) : List Nat × Nat :=
  if c.toNat = 46 then (x.1 ++ [x.2], 0) else if 48 ≤ c.toNat ∧ c.toNat ≤ 57 ∧ x.2 < 100000 then (x.1, x.2 * 10 + (c.toNat - 48)) else x
def scan (x : List Nat × Nat) (l : List UInt8) : List Nat × Nat := l.foldl scan1 x
def nums (l : List UInt8) : List Nat := (scan ([], 0) l).1 ++ [(scan ([], 0) l).2]

theorem scan_digs (l : List UInt8) : ∀ (p : List Nat) (z : Nat), (∀ c ∈ l, isDig c) → valF z l ≤ 65535 → scan (p, z) l = (p, valF z l) := by
  induction l with
  | nil => exact fun p z _ _ => rfl
  | cons c l ih =>
    intro p z hd hv
    have hc := hd c (List.mem_cons_self ..)
    have hge := valF_ge l (z * 10 + (c.toNat - 48))
    have hv' : valF (z * 10 + (c.toNat - 48)) l ≤ 65535 := hv
    have h1 : scan1 (p, z) c = (p, z * 10 + (c.toNat - 48)) := by
      unfold isDig at hc
      unfold scan1
      rw [if_neg (by omega), if_pos ⟨hc.1, hc.2, by show z < 100000; omega⟩]
    simp only [scan, List.foldl_cons, h1]
    exact ih p _ (fun d hd' => hd d (List.mem_cons_of_mem _ hd')) hv'

theorem scan_app (x : List Nat × Nat) (a b : List UInt8) : scan x (a ++ b) = scan (scan x a) b := by simp [scan]
theorem scan_dot (p : List Nat) (z : Nat) (r : List UInt8) : scan (p, z) (46 :: r) = scan (p ++ [z], 0) r := by
  simp only [scan, List.foldl_cons]
  rfl

/-- The reference's numbers of an epoch's text are the epoch's. -/
theorem nums_text (e : Ep) (he : e.fit) : nums (textE e).data.toList = [e.c, e.a, e.i] := by
  obtain ⟨h1, h2, h3⟩ := he
  have k1 := scan_digs (Lib.decDigits e.c) [] 0 (dec_digs _) (by rw [dec_val]; exact h1)
  have k2 := scan_digs (Lib.decDigits e.a) [e.c] 0 (dec_digs _) (by rw [dec_val]; omega)
  have k3 := scan_digs (Lib.decDigits e.i) [e.c, e.a] 0 (dec_digs _) (by rw [dec_val]; exact h3)
  rw [dec_val] at k1 k2 k3
  unfold nums
  rw [text_list, scan_app, k1, scan_dot]
  simp only [List.nil_append]
  rw [scan_app, k2, scan_dot]
  simp only [List.cons_append, List.nil_append]
  rw [k3]
  rfl

/-- One step of the scan, from the k-th byte on. -/
theorem scan_drop (x : List Nat × Nat) (s : ByteArray) (k : Nat) (h : k < s.size) : scan x (s.data.toList.drop k) = scan (scan1 x s[k]) (s.data.toList.drop (k + 1)) := by
  have hl : k < s.data.toList.length := by rw [size_list]; exact h
  rw [List.drop_eq_getElem_cons hl]
  rfl

end Go.Proofs.YtgdamcajjifliaaDoor
