/-
  One act of the law RetainRuns, whichever: the code and the document don't part. Conditions: the calls answer as is asked.
-/
import Derived.Test.YtahmngmbgbcmhaaDoorRtOne
namespace Go.Proofs.YtahmngmbgbcmhaaDoor.Ret
open Go.RowKit
open Oct
open Sto (St CodeAt Only)

theorem next_hid (l : List UInt8) (hl : l.length ≤ 1000) (boot : Bool) (inc : Nat) (d : ByteArray) (hd : d.size ≤ maxLen) (w : World) :
    Calls Tryd.prog 24 #[.string (S l), .bool boot, .int .u16 inc, .string d] w fun e w' => e = .returned (.tuple #[.agg #[.int .u32 (nextR l boot inc d).q, .int .u16 (nextR l boot inc d).i, .string (nextR l boot inc d).d], .int .i64 (nextE l boot d)]) ∧ Below w.heap.size w w' := by
  have h := rnext_any (S l) boot inc d w hd (by rw [S_size]; unfold maxLen; omega)
  rw [S_list] at h
  exact h
theorem commits_hid (l : List UInt8) (hl : 148 ≤ l.length) (hm : l.length ≤ 1000) (r : Rc) (hr : r.Ok) (most : Int) (hm0 : -9223372036854775808 ≤ most) (hm1 : most ≤ 9223372036854775807) (l' : List UInt8) (b : Bool) (el : doneL l (goes l) (slot r) most = l') (eb : doneB most = b) (w : World) :
    Calls Tryd.prog 25 #[.string (S l), .agg #[.int .u32 r.q, .int .u16 r.i, .string r.d], .int .i64 most] w fun e w' => e = .returned (.tuple #[.string (S l'), .bool b]) ∧ Below w.heap.size w w' := by
  have h := rcommit_any (S l) r most w (by rw [S_size]; exact hl) (by rw [S_size]; exact hm) hr hm0 hm1
  rw [S_list] at h
  subst el eb
  exact h
theorem done_free (l : List UInt8) (k : Nat) (sl : List UInt8) : doneL l k sl (-1) = cur l k sl 75 ∧ doneB (-1) = true := ⟨by unfold doneL; rw [if_neg (by omega)], by decide⟩
theorem done_full (l : List UInt8) (k : Nat) (sl : List UInt8) {m : Nat} (h : 75 ≤ m) : doneL l k sl m = cur l k sl 75 ∧ doneB m = true := ⟨by unfold doneL; rw [if_neg (by omega)], by unfold doneB; rw [decide_eq_false (by omega)]; rfl⟩
theorem done_torn (l : List UInt8) (k : Nat) (sl : List UInt8) {m : Nat} (h : m < 75) : doneL l k sl m = cur l k sl m ∧ doneB m = false := ⟨by unfold doneL; rw [if_pos (by omega), Int.toNat_natCast], by unfold doneB; rw [decide_eq_true (by omega)]; rfl⟩

/-- What a commit, or a boot, that writes all, or not all, makes of the bytes. -/
theorem cm_free_l {l : List UInt8} {n inc : Nat} {boot : Bool} {d : ByteArray} (hl : 148 ≤ l.length) (hinc : (inc : Int) ≤ 65535) (h : nextE l boot d = 0) :
    cmE ⟨l, true, none, n⟩ boot inc d = 0 ∧ (cmX ⟨l, true, none, n⟩ boot inc d).l = cur l (goes l) (slot (nextR l boot inc d)) 75 := by
  obtain ⟨hok, hq⟩ := next_ok (inc := inc) hl hinc h
  obtain ⟨e1, e2⟩ := three_free (l := l) (n := n) (k := goes l) (slot_length hok.d) (by have := goes_le l; omega)
  unfold cmE cmX
  rw [if_neg (fun hn => hn h), if_neg (fun hn => hn h)]
  exact ⟨e1, by rw [e2]⟩
theorem cm_full_l {l : List UInt8} {n inc m : Nat} {boot : Bool} {d : ByteArray} (hl : 148 ≤ l.length) (hinc : (inc : Int) ≤ 65535) (h : nextE l boot d = 0) (hm : 75 ≤ m) :
    cmE ⟨l, true, some m, n⟩ boot inc d = 0 ∧ (cmX ⟨l, true, some m, n⟩ boot inc d).l = cur l (goes l) (slot (nextR l boot inc d)) 75 := by
  obtain ⟨hok, hq⟩ := next_ok (inc := inc) hl hinc h
  obtain ⟨e1, e2⟩ := (three_arm (l := l) (m := m) (n := n) (k := goes l) (slot_length hok.d) (by have := goes_le l; omega)).2 hm
  unfold cmE cmX
  rw [if_neg (fun hn => hn h), if_neg (fun hn => hn h)]
  exact ⟨e1, by rw [e2]⟩
theorem cm_torn_l {l : List UInt8} {n inc m : Nat} {boot : Bool} {d : ByteArray} (hl : 148 ≤ l.length) (hinc : (inc : Int) ≤ 65535) (h : nextE l boot d = 0) (hm : m < 75) :
    cmE ⟨l, true, some m, n⟩ boot inc d = 12 ∧ (cmX ⟨l, true, some m, n⟩ boot inc d).l = cur l (goes l) (slot (nextR l boot inc d)) m ∧ (cmX ⟨l, true, some m, n⟩ boot inc d).up = false := by
  obtain ⟨hok, hq⟩ := next_ok (inc := inc) hl hinc h
  obtain ⟨e1, e2⟩ := (three_arm (l := l) (m := m) (n := n) (k := goes l) (slot_length hok.d) (by have := goes_le l; omega)).1 hm
  unfold cmE cmX
  rw [if_neg (fun hn => hn h), if_neg (fun hn => hn h)]
  exact ⟨e1, by rw [e2], by rw [e2]⟩

theorem next_len {l : List UInt8} {boot : Bool} {d : ByteArray} (h : nextE l boot d = 0) : 148 ≤ l.length := by
  unfold nextE at h
  by_cases h1 : boot = false ∧ 64 < d.size
  · rw [if_pos h1] at h; cases h
  rw [if_neg h1] at h
  by_cases h2 : l.length < 148
  · rw [if_pos h2] at h; cases h
  omega
theorem next_zero {l : List UInt8} {boot : Bool} {inc : Nat} {d : ByteArray} (h : nextE l boot d ≠ 0) : nextR l boot inc d = Rc.zero := by
  unfold nextR; rw [if_neg h]
theorem next_boots (l : List UInt8) (inc : Nat) (d : ByteArray) : nextE l true d = nextE l true ⟨#[]⟩ ∧ nextR l true inc d = nextR l true 0 ⟨#[]⟩ := by
  have h : nextE l true d = nextE l true ⟨#[]⟩ := by
    have hf : ∀ d : ByteArray, ¬ (true = false ∧ 64 < d.size) := fun d h => by cases h.1
    unfold nextE
    rw [if_neg (hf d), if_neg (hf ⟨#[]⟩)]
  refine ⟨h, ?_⟩
  unfold nextR
  rw [h]
  rfl

/-- What Armed tells. -/
theorem arm_hid (p g cap : Nat) (x : St) (w : World) (hx : CodeAt w p g cap x) :
    Calls Tryd.prog 22 #[.pointer (some ⟨p, 0, none⟩)] w fun e w' => e = .returned (.tuple #[.int .i64 (Sto.armN x.arm), .bool x.arm.isSome]) ∧ w = w' := Sto.armed_any p g cap x w hx

def most (x : St) : Int := match x.arm with | none => -1 | some m => m
theorem most_is (x : St) : (x.arm.isSome = false ∧ most x = -1) ∨ (x.arm.isSome = true ∧ most x = Sto.armN x.arm) := by
  obtain ⟨l, u, a, n⟩ := x
  cases a with
  | none => exact .inl ⟨rfl, rfl⟩
  | some m => exact .inr ⟨rfl, rfl⟩

set_option maxRecDepth 100000 in
theorem do_commit (C : Code) (p g cap : Nat) (x : St) (a inc n : Nat) (d : ByteArray) (w : World) (hx : CodeAt w p g cap x) (hF : Fine x) (h3 : a % 3 = 0) (hinc : (inc : Int) ≤ 65535) (hd : d.size ≤ maxLen) :
    Calls Tryd.prog 9 #[.pointer (some ⟨p, 0, none⟩), .agg #[.int .u8 a, .int .u16 inc, .string d, .int .u8 n]] w (OneEnd p g cap (cmX x false inc d) w) := by
  have hfw := few_of hx
  have HA := arm_hid p g cap x
  have HM := most_is x
  have HN := next_hid x.l hfw false inc d hd
  have HC := fun w hx => C.commit p g cap x inc d w hx hinc hd hF
  unfold Committed at HC
  by_cases h0 : nextE x.l false d = 0
  · have hl := next_len h0
    obtain ⟨hok, -⟩ := next_ok (inc := inc) hl hinc h0
    rw [h0] at HN
    obtain ⟨l, u, arm, m⟩ := x
    cases u with
    | false =>
      obtain ⟨e1, e2⟩ := cm_down (a := arm) (n := m) (inc := inc) hl h0
      rw [e1, e2] at HC
      rw [e2]
      exact one_commit2 p g cap _ _ _ a inc n d _ _ _ w hx h3 HM rfl (Lib.hid HA) (Lib.hid HC) (Lib.hid HN) rfl
    | true =>
      cases arm with
      | none =>
        obtain ⟨e1, e2⟩ := cm_free_l (n := m) (inc := inc) hl hinc h0
        rw [e1] at HC
        obtain ⟨d1, d2⟩ := done_free l (goes l) (slot (nextR l false inc d))
        exact one_commit3 p g cap _ _ _ a inc n d _ _ _ w hx h3 HM rfl (Lib.hid HA) (Lib.hid HC) (Lib.hid HN)
          (Lib.hid (commits_hid l hl hfw _ hok (-1) (by omega) (by omega) _ _ (d1.trans e2.symm) d2))
      | some k =>
        have hk := hF.arm k rfl
        by_cases h75 : k < 75
        · obtain ⟨e1, e2, e3⟩ := cm_torn_l (n := m) (inc := inc) hl hinc h0 h75
          rw [e1] at HC
          obtain ⟨d1, d2⟩ := done_torn l (goes l) (slot (nextR l false inc d)) h75
          exact one_commit4 p g cap _ _ _ a inc n d _ _ _ w hx h3 HM rfl (Lib.hid HA) (Lib.hid HC) (Lib.hid HN)
            (Lib.hid (commits_hid l hl hfw _ hok k (by omega) (by omega) _ _ (d1.trans e2.symm) d2)) e3
        · obtain ⟨e1, e2⟩ := cm_full_l (n := m) (inc := inc) hl hinc h0 (by omega : 75 ≤ k)
          rw [e1] at HC
          obtain ⟨d1, d2⟩ := done_full l (goes l) (slot (nextR l false inc d)) (by omega : 75 ≤ k)
          exact one_commit3 p g cap _ _ _ a inc n d _ _ _ w hx h3 HM rfl (Lib.hid HA) (Lib.hid HC) (Lib.hid HN)
            (Lib.hid (commits_hid l hl hfw _ hok k (by omega) (by omega) _ _ (d1.trans e2.symm) d2))
  · obtain ⟨e1, e2⟩ := cm_bad (x := x) (inc := inc) h0
    rw [e1, e2] at HC
    rw [e2]
    exact one_commit1 p g cap x x (nextR x.l false inc d) a inc n d _ _ _ w _ _ (by rw [beq_eq_false_iff_ne]; exact h0) hx h3 HM rfl (Lib.hid HA) (Lib.hid HC) (Lib.hid HN) rfl rfl

set_option maxRecDepth 100000 in
theorem do_boot (C : Code) (p g cap : Nat) (x : St) (a inc n : Nat) (d : ByteArray) (w : World) (hx : CodeAt w p g cap x) (hF : Fine x) (h3 : a % 3 = 1) (hd : d.size ≤ maxLen) :
    Calls Tryd.prog 9 #[.pointer (some ⟨p, 0, none⟩), .agg #[.int .u8 a, .int .u16 inc, .string d, .int .u8 n]] w (OneEnd p g cap (cmX x true 0 ⟨#[]⟩) w) := by
  have hfw := few_of hx
  have HA := arm_hid p g cap x
  have HM := most_is x
  have HN := next_hid x.l hfw true inc d hd
  obtain ⟨n1, n2⟩ := next_boots x.l inc d
  rw [n1, n2] at HN
  have HC := fun w hx => C.boot p g cap x w hx hF
  unfold Booted btR at HC
  by_cases h0 : nextE x.l true ⟨#[]⟩ = 0
  · have hl := next_len h0
    obtain ⟨hok, -⟩ := next_ok (inc := 0) hl (by decide) h0
    rw [h0] at HN
    obtain ⟨l, u, arm, m⟩ := x
    cases u with
    | false =>
      obtain ⟨e1, e2⟩ := cm_down (a := arm) (n := m) (inc := 0) hl h0
      rw [e1, e2, if_neg (by decide)] at HC
      rw [e2]
      exact one_boot2 p g cap _ _ _ a inc n d _ _ _ w hx h3 HM rfl (Lib.hid HA) (Lib.hid HC) (Lib.hid HN) rfl
    | true =>
      cases arm with
      | none =>
        obtain ⟨e1, e2⟩ := cm_free_l (n := m) (inc := 0) hl (by decide) h0
        rw [e1, if_pos rfl] at HC
        obtain ⟨d1, d2⟩ := done_free l (goes l) (slot (nextR l true 0 ⟨#[]⟩))
        exact one_boot3 p g cap _ _ _ a inc n d _ _ _ w hx h3 HM rfl (Lib.hid HA) (Lib.hid HC) (Lib.hid HN)
          (Lib.hid (commits_hid l hl hfw _ hok (-1) (by omega) (by omega) _ _ (d1.trans e2.symm) d2))
      | some k =>
        have hk := hF.arm k rfl
        by_cases h75 : k < 75
        · obtain ⟨e1, e2, e3⟩ := cm_torn_l (n := m) (inc := 0) hl (by decide) h0 h75
          rw [e1, if_neg (by decide)] at HC
          obtain ⟨d1, d2⟩ := done_torn l (goes l) (slot (nextR l true 0 ⟨#[]⟩)) h75
          exact one_boot4 p g cap _ _ _ a inc n d _ _ _ w hx h3 HM rfl (Lib.hid HA) (Lib.hid HC) (Lib.hid HN)
            (Lib.hid (commits_hid l hl hfw _ hok k (by omega) (by omega) _ _ (d1.trans e2.symm) d2)) e3
        · obtain ⟨e1, e2⟩ := cm_full_l (n := m) (inc := 0) hl (by decide) h0 (by omega : 75 ≤ k)
          rw [e1, if_pos rfl] at HC
          obtain ⟨d1, d2⟩ := done_full l (goes l) (slot (nextR l true 0 ⟨#[]⟩)) (by omega : 75 ≤ k)
          exact one_boot3 p g cap _ _ _ a inc n d _ _ _ w hx h3 HM rfl (Lib.hid HA) (Lib.hid HC) (Lib.hid HN)
            (Lib.hid (commits_hid l hl hfw _ hok k (by omega) (by omega) _ _ (d1.trans e2.symm) d2))
  · obtain ⟨e1, e2⟩ := cm_bad (x := x) (inc := 0) h0
    rw [e1, e2, if_neg h0] at HC
    rw [e2]
    exact one_boot1 p g cap x x (nextR x.l true 0 ⟨#[]⟩) a inc n d _ _ _ w _ _ (by rw [beq_eq_false_iff_ne]; exact h0) hx h3 HM rfl (Lib.hid HA) (Lib.hid HC) (Lib.hid HN) rfl rfl

/-- An act of any kind. -/
theorem one_any (C : Code) (p g cap : Nat) (x : St) (y : Ac) (w : World) (hx : CodeAt w p g cap x) (hF : Fine x) (hinc : (y.inc : Int) ≤ 65535) (hn : (y.n : Int) ≤ 255) (hd : y.d.size ≤ maxLen) :
    Calls Tryd.prog 9 #[.pointer (some ⟨p, 0, none⟩), .agg #[.int .u8 y.a, .int .u16 y.inc, .string y.d, .int .u8 y.n]] w (OneEnd p g cap (did x y) w) := by
  obtain ⟨a, inc, d, n⟩ := y
  unfold did
  rcases case3 a with h | h | h
  · rw [if_neg (by show ¬ a % 3 = 2; omega), if_neg (by show ¬ a % 3 = 1; omega)]
    exact do_commit C p g cap x a inc n d w hx hF h hinc hd
  · rw [if_neg (by show ¬ a % 3 = 2; omega), if_pos h]
    exact do_boot C p g cap x a inc n d w hx hF h hd
  · rw [if_pos h]
    exact one_arm p g cap x a inc n d w hx h hn

theorem three_n (x : St) (k : Nat) (sl : List UInt8) (h : k + 74 ≤ x.l.length) (hs : sl.length = 73) : (three x k sl).n ≤ x.n + 75 := by
  obtain ⟨l, u, arm, m⟩ := x
  cases u with
  | false => rw [(three_down h).2]; exact Nat.le_add_right _ _
  | true =>
    cases arm with
    | none => rw [(three_free hs h).2]; exact Nat.le_refl _
    | some j =>
      by_cases hj : j < 75
      · rw [((three_arm hs h).1 hj).2]; show m + j ≤ m + 75; omega
      · rw [((three_arm hs h).2 (by omega)).2]; exact Nat.le_refl _
theorem cm_n (x : St) {inc : Nat} (boot : Bool) (d : ByteArray) (hinc : (inc : Int) ≤ 65535) : (cmX x boot inc d).n ≤ x.n + 75 := by
  by_cases h0 : nextE x.l boot d = 0
  · have hl := next_len h0
    obtain ⟨hok, -⟩ := next_ok (inc := inc) hl hinc h0
    unfold cmX
    rw [if_neg (fun hn => hn h0)]
    exact three_n x _ _ (by have := goes_le x.l; omega) (slot_length hok.d)
  · rw [(cm_bad h0).2]; omega
theorem cm_arm (x : St) {inc : Nat} (boot : Bool) (d : ByteArray) (hinc : (inc : Int) ≤ 65535) (h : ∀ k, x.arm = some k → k ≤ 255) : ∀ k, (cmX x boot inc d).arm = some k → k ≤ 255 := by
  by_cases h0 : nextE x.l boot d = 0
  · have hl := next_len h0
    obtain ⟨hok, -⟩ := next_ok (inc := inc) hl hinc h0
    have hs := slot_length hok.d
    have hg : goes x.l + 74 ≤ x.l.length := by have := goes_le x.l; omega
    unfold cmX
    rw [if_neg (fun hn => hn h0)]
    obtain ⟨l, u, arm, m⟩ := x
    cases u with
    | false => rw [(three_down hg).2]; exact h
    | true =>
      cases arm with
      | none => rw [(three_free hs hg).2]; exact h
      | some j =>
        by_cases hj : j < 75
        · rw [((three_arm hs hg).1 hj).2]; intro k hk; cases hk
        · rw [((three_arm hs hg).2 (by omega)).2]
          intro k hk
          have hj2 := h j rfl
          cases hk
          omega
  · rw [(cm_bad h0).2]; exact h

theorem did_n {x : St} {y : Ac} (hinc : (y.inc : Int) ≤ 65535) : (did x y).n ≤ x.n + 75 := by
  unfold did
  split
  · exact Nat.le_add_right _ _
  · split
    · exact cm_n x true _ (by decide)
    · exact cm_n x false _ hinc
theorem did_arm {x : St} {y : Ac} (hinc : (y.inc : Int) ≤ 65535) (hn : (y.n : Int) ≤ 255) (h : ∀ k, x.arm = some k → k ≤ 255) : ∀ k, (did x y).arm = some k → k ≤ 255 := by
  unfold did
  split
  · intro k hk
    cases hk
    omega
  · split
    · exact cm_arm x true _ (by decide) h
    · exact cm_arm x false _ hinc h

end Go.Proofs.YtahmngmbgbcmhaaDoor.Ret
