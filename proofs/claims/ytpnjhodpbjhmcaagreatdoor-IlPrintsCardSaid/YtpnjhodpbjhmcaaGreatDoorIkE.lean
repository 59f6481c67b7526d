/-
  The library's calls that the landed code makes (Itoa, FormatInt, Cut, CutPrefix, CutSuffix, Split, FieldsFunc, IndexByte), at this seat. Conditions: the library's table of powers and MaxLen are as the program lays them.
-/
import Derived.Test.YtpnjhodpbjhmcaaGreatDoorIlShelf
import Derived.Test.YtpnjhodpbjhmcaaGreatDoorIlWords
import Derived.Test.YtpnjhodpbjhmcaaGreatDoorIlWsp
import Derived.Lib.Walk
namespace Go.Proofs.YtpnjhodpbjhmcaaGreatDoor.Il
open Go.RowKit Go.Sort
open Go.Proofs.YtpnjhodpbjhmcaaGreatDoor.Ic

/-- What the library's functions read of package-level variables. -/
def Env (w : World) : Prop :=
  Lib.TabIs Tryz.prog w "internal/strconv.uint64pow10" .u64 Lib.pow10Tab ∧ ∃ m : Int, w.cell? ⟨1, 0, none⟩ = some (.int .i64 m)
theorem Tryz.gPow : Tryz.prog.globalNamed "internal/strconv.uint64pow10" = some 0 := by kernel_rfl
theorem env_size {w : World} (h : Env w) : 0 < w.heap.size ∧ 1 < w.heap.size := by
  obtain ⟨h1, m, h2⟩ := h
  refine ⟨?_, World.block_lt_of_cell? w _ h2⟩
  unfold Lib.TabIs World.var? at h1
  rw [Tryz.gPow] at h1
  simp only [Option.bind_some] at h1
  rcases Nat.lt_or_ge 0 w.heap.size with h' | h'
  · exact h'
  · rw [Array.getElem?_eq_none h'] at h1; cases h1
theorem Env.belowN {N : Nat} {w w' : World} (h : Env w) (hN : 0 < N ∧ 1 < N) (hb : Below N w w') : Env w' := by
  obtain ⟨h1, m, h2⟩ := h
  refine ⟨?_, m, ?_⟩
  · unfold Lib.TabIs World.var? at h1 ⊢
    rw [Tryz.gPow] at h1 ⊢
    simp only [Option.bind_some] at h1 ⊢
    rw [hb.block _ hN.1]
    exact h1
  · exact (World.cell?_of_block (a := ⟨1, 0, none⟩) (hb.block _ hN.2)).trans h2
theorem Env.below {w w' : World} (h : Env w) (hb : Below w.heap.size w w') : Env w' := h.belowN (env_size h) hb
@[simp] theorem Env_drew (w : World) : Env w.drew = Env w := propext ⟨fun h => h, fun h => h⟩
/-- The calls stand on it. -/
def noB : Base := ⟨fun N w => Env w ∧ 0 < N ∧ 1 < N, fun h hb => ⟨h.1.belowN h.2 hb, h.2⟩⟩
theorem noB_first {w : World} (h : Env w) : noB.E w.heap.size w := ⟨h, env_size h⟩
/-- What a call of the code hands on. -/
def Keep (N : Nat) (w W : World) : Prop := Next N w W ∧ Env W
@[simp] theorem Keep_drew (N : Nat) (w W : World) : Keep N w W.drew = Keep N w W := by unfold Keep; rw [Next_drew, Env_drew]
theorem Keep.next {N : Nat} {w W W' : World} (h : Keep N w W) (hb : Below W.heap.size W W') : Keep N w W' := ⟨h.1.next hb, h.2.below hb⟩
theorem below_grow (w : World) (k : Nat) (os : Array Obj) : Below w.heap.size w (grow (w.drewN k) os) := by
  refine ⟨rfl, rfl, rfl, ?_, fun j hj => ?_⟩
  · show w.heap.size ≤ (w.heap ++ os).size
    simp
  · show (w.heap ++ os)[j]? = w.heap[j]?
    rw [Array.getElem?_append_left hj]
theorem below_drawn (w : World) (k : Nat) : Below w.heap.size w (w.drewN k) := ⟨rfl, rfl, rfl, Nat.le_refl _, fun _ _ => rfl⟩

theorem cItoa (n : Int) (hn : I64 n) (W : World) (hE : Env W) : Calls Tryz.prog 35 #[.int .i64 n] W (Tells (.string (S (Lib.itoa n))) W) :=
  (Tryz.strconv_Itoa n hn.1 hn.2 W hE.1).mono fun _ _ ⟨h, k, os, e⟩ => ⟨h, by rw [e]; exact below_grow W k os⟩
theorem cFormat (n : Int) (hn : I64 n) (W : World) (hE : Env W) : Calls Tryz.prog 28 #[.int .i64 n, .int .i64 10] W (Tells (.string (S (Lib.itoa n))) W) :=
  (Tryz.strconv_FormatInt_10 n hn.1 hn.2 W hE.1).mono fun _ _ ⟨h, k, os, e⟩ => ⟨h, by rw [e]; exact below_grow W k os⟩
/-- What Cut answers at one byte. -/
def cutV (s : Bs) (c : UInt8) : Value := .tuple #[.string (S (Lib.cut s [c]).1), .string (S (Lib.cut s [c]).2.1), .bool (Lib.cut s [c]).2.2]
theorem cCut (s : Bs) (c : UInt8) (hs : s.length ≤ 100000) (W : World) (hE : Env W) : Calls Tryz.prog 51 #[.string (S s), .string (S [c])] W (Tells (cutV s c) W) := by
  obtain ⟨m, hm⟩ := hE.2
  exact (Tryz.strings_Cut (S s) (S [c]) m W (by rw [S_size]; omega) hm).mono fun _ _ ⟨h, k, e⟩ => ⟨h, by rw [e]; exact below_drawn W k⟩
theorem cIndex (s : Bs) (c : UInt8) (W : World) : Calls Tryz.prog 95 #[.string (S s), .int .u8 c.toNat] W fun e w' => e = .returned (.int .i64 (Lib.indexByte s c)) ∧ W = w' :=
  (Tryz.strings_IndexByte (S s) (c.toNat : Int) W).mono fun _ _ ⟨h, e⟩ => ⟨by rw [h]; simp [S], e.symm⟩
theorem cSplit (s : Bs) (c : UInt8) (hs : s.length ≤ 100000) (W : World) (hE : Env W) : Calls Tryz.prog 19 #[.string (S s), .string (S [c])] W fun e w' =>
    e = .returned (.slice (some ⟨W.heap.size, 0, none⟩) (splitB c s).length (splitB c s).length) ∧ TextsAt w' W.heap.size (splitB c s) ∧ W.heap.size < w'.heap.size ∧ Below W.heap.size W w' := by
  obtain ⟨m, hm⟩ := hE.2
  obtain ⟨h1, h2⟩ := split_lines c s
  refine (Tryz.strings_Split (S s) (S [c]) m W (by rw [S_size]; omega) hm (by simp [S, ByteArray.size])).mono fun e w' ⟨he, hw⟩ => ?_
  rw [h2] at he
  rw [h1] at hw
  subst hw
  refine ⟨he, fun j x hx => ?_, by simp, (Below.refl _ _).alloc (Nat.le_refl _) _⟩
  rw [cell_of_row _ _ j _ _ (0, 0) (heap_alloc_new W _)]
  simp [hx]

set_option maxRecDepth 100000 in
theorem clo_any (x : Int) (W : World) : Calls Tryz.prog 53 #[.int .i32 x] W fun e w' => e = .returned (.bool (x == 32)) ∧ W = w' := by
  go_enter Tryz.func53, Tryz.ntmps53
  go_wp2
  go_ret
  exact ⟨rfl, rfl⟩
theorem clo_pred (w : World) : PredAt Tryz.prog 53 #[] encR blankP w := fun W x _ => by
  show Calls Tryz.prog 53 #[.int .i32 (x : Int)] W _
  refine (clo_any x W).mono fun e w' ⟨h, e2⟩ => ⟨?_, 0, e2.symm⟩
  rw [h]
  congr 2
  unfold blankP
  by_cases h : x = 32
  · subst h; rfl
  · rw [decide_eq_false h, beq_eq_false_iff_ne]; omega
theorem cFields (s : Bs) (hs : s.length ≤ 100000) (W : World) : Calls Tryz.prog 52 #[.string (S s), .func (.func 53) #[] #[]] W fun e w' =>
    ∃ g, e = .returned (.slice (some ⟨g, 0, none⟩) (fullB (splitB 32 s)).length (fullB (splitB 32 s)).length) ∧ TextsAt w' g (fullB (splitB 32 s)) ∧ g < w'.heap.size ∧ Below W.heap.size W w' := by
  refine (Tryz.strings_FieldsFunc 53 #[] (enters_of Tryz.func53 (by kernel_rfl) rfl) blankP (S s) W (by rw [S_size]; omega) (clo_pred W)).mono fun e w' ⟨A, h1, h2, h3, h4⟩ => ?_
  rw [fields_words, List.length_map] at h1 h3
  refine ⟨A, h1, fun j x hx => ?_, (World.ownsRow.lt h3 A rfl).2, h4⟩
  have hj := (List.getElem?_eq_some_iff.1 hx).1
  rw [World.ownsRow.cellAt h3 j (by omega)]
  simp [hx]

/-! ### CutPrefix, CutSuffix -/
theorem hasPre (c : UInt8) (s : Bs) : Lib.hasPrefix s [c] = decide (s.head? = some c) := by
  unfold Lib.hasPrefix
  cases s with
  | nil => rfl
  | cons x s =>
    by_cases h : x = c
    · subst h; simp [List.isPrefixOf]
    · simp [List.isPrefixOf, h, Ne.symm h]
theorem hasSuf (c : UInt8) (s : Bs) : Lib.hasSuffix s [c] = decide (s.getLast? = some c) := by
  unfold Lib.hasSuffix
  by_cases h : s.getLast? = some c
  · rw [decide_eq_true h, List.isSuffixOf_iff_suffix]
    obtain ⟨t, ht⟩ := List.getLast?_eq_some_iff.1 h
    exact ⟨t, ht.symm⟩
  · rw [decide_eq_false h, ← Bool.not_eq_true, List.isSuffixOf_iff_suffix]
    rintro ⟨t, ht⟩
    exact h (List.getLast?_eq_some_iff.2 ⟨t, ht.symm⟩)
def cutPre (s : Bs) (c : UInt8) : Bs × Bool := if s.head? = some c then (s.tail, true) else (s, false)
def cutSuf (s : Bs) (c : UInt8) : Bs × Bool := if s.getLast? = some c then (s.dropLast, true) else (s, false)
theorem ext_tail (s : Bs) : (S s).extract 1 (S s).size = S s.tail := by
  rw [ext_S, S_size]
  congr 1
  unfold Lib.pieceU
  rw [List.take_of_length_le (by simp)]
  cases s <;> rfl
theorem ext_init (s : Bs) : (S s).extract 0 (s.length - 1) = S s.dropLast := by
  rw [ext_S]
  congr 1
  unfold Lib.pieceU
  rw [List.drop_zero, List.dropLast_eq_take]
  rfl

set_option maxRecDepth 100000 in
theorem cSuf0 (s : Bs) (c : UInt8) (hs : s.length ≤ 100000) (W : World) : Calls Tryz.prog 64 #[.string (S s), .string (S [c])] W (Tells (.tuple #[.string (S (cutSuf s c).1), .bool (cutSuf s c).2]) W) := by
  have HS : Hid (∀ W, Calls Tryz.prog 81 #[.string (S s), .string (S [c])] W fun e w' => e = .returned (.bool (decide (s.getLast? = some c))) ∧ w' = W) := fun W => by
    have := Tryz.stringslite_HasSuffix (S s) (S [c]) W (by rw [S_size]; omega)
    rw [show Lib.hasSuffix (S s).data.toList (S [c]).data.toList = Lib.hasSuffix s [c] from rfl, hasSuf] at this
    exact this
  have hsz := S_size s
  have hc1 : (S [c]).size = 1 := rfl
  by_cases h : s.getLast? = some c
  · rw [show cutSuf s c = (s.dropLast, true) by unfold cutSuf; rw [if_pos h]]
    rw [decide_eq_true h] at HS
    have hl : 1 ≤ s.length := by
      cases s with
      | nil => simp at h
      | cons x s => simp
    have hwr : IntKind.i64.wrap ((s.length : Int) - 1) = ((s.length - 1 : Nat) : Int) := by rw [IntKind.wrap_i64]; omega
    have hx := ext_init s
    have hlt : ((s.length - 1 : Nat) : Int) ≤ (s.length : Int) := by omega
    generalize s.length - 1 = k at *
    generalize S s.dropLast = d at *
    generalize S [c] = p at *
    clear h
    go_enter Tryz.func64, Tryz.ntmps64
    go_wp2_with fail
    refine (HS.out _).mono ?_
    rintro e w1 ⟨rfl, rfl⟩
    go_wp2
    go_ret2
    exact ⟨rfl, Below.refl _ _⟩
  · rw [show cutSuf s c = (s, false) by unfold cutSuf; rw [if_neg h]]
    rw [decide_eq_false h] at HS
    clear h
    generalize S [c] = p at *
    go_enter Tryz.func64, Tryz.ntmps64
    go_wp2_with fail
    refine (HS.out _).mono ?_
    rintro e w1 ⟨rfl, rfl⟩
    go_wp2
    go_ret2
    exact ⟨rfl, Below.refl _ _⟩

theorem cSuf (s : Bs) (c : UInt8) (hs : s.length ≤ 100000) (W : World) : Calls Tryz.prog 47 #[.string (S s), .string (S [c])] W (Tells (.tuple #[.string (S (cutSuf s c).1), .bool (cutSuf s c).2]) W) := by
  have H := Lib.hid (fun W => cSuf0 s c hs W)
  generalize S (cutSuf s c).1 = a at *
  generalize (cutSuf s c).2 = b at *
  generalize S [c] = p at *
  go_enter Tryz.func47, Tryz.ntmps47
  go_wp2_with fail
  refine (H.out _).mono ?_
  rintro e w1 ⟨rfl, hb⟩
  go_wp2
  go_ret2
  exact ⟨rfl, hb⟩

set_option maxRecDepth 100000 in
theorem cPre0 (s : Bs) (c : UInt8) (W : World) : Calls Tryz.prog 105 #[.string (S s), .string (S [c])] W (Tells (.tuple #[.string (S (cutPre s c).1), .bool (cutPre s c).2]) W) := by
  have HS : Hid (∀ W, Calls Tryz.prog 106 #[.string (S s), .string (S [c])] W fun e w' => e = .returned (.bool (decide (s.head? = some c))) ∧ w' = W) := fun W => by
    have := Tryz.stringslite_HasPrefix (S s) (S [c]) W
    rw [show Lib.hasPrefix (S s).data.toList (S [c]).data.toList = Lib.hasPrefix s [c] from rfl, hasPre] at this
    exact this
  have hsz := S_size s
  have hc1 : (S [c]).size = 1 := rfl
  by_cases h : s.head? = some c
  · rw [show cutPre s c = (s.tail, true) by unfold cutPre; rw [if_pos h]]
    rw [decide_eq_true h] at HS
    have hl : 1 ≤ (S s).size := by
      cases s with
      | nil => simp at h
      | cons x s => rw [hsz]; simp
    have hI : (1 : Int) ≤ ((S s).size : Int) := by omega
    have hx := ext_tail s
    clear hsz
    generalize S s.tail = d at *
    generalize S [c] = p at *
    clear h
    go_enter Tryz.func105, Tryz.ntmps105
    go_wp2_with fail
    refine (HS.out _).mono ?_
    rintro e w1 ⟨rfl, rfl⟩
    go_wp2
    go_ret2
    exact ⟨rfl, Below.refl _ _⟩
  · rw [show cutPre s c = (s, false) by unfold cutPre; rw [if_neg h]]
    rw [decide_eq_false h] at HS
    clear h
    generalize S [c] = p at *
    go_enter Tryz.func105, Tryz.ntmps105
    go_wp2_with fail
    refine (HS.out _).mono ?_
    rintro e w1 ⟨rfl, rfl⟩
    go_wp2
    go_ret2
    exact ⟨rfl, Below.refl _ _⟩
theorem cPre (s : Bs) (c : UInt8) (W : World) : Calls Tryz.prog 104 #[.string (S s), .string (S [c])] W (Tells (.tuple #[.string (S (cutPre s c).1), .bool (cutPre s c).2]) W) := by
  have H := Lib.hid (fun W => cPre0 s c W)
  generalize S (cutPre s c).1 = a at *
  generalize (cutPre s c).2 = b at *
  generalize S [c] = p at *
  go_enter Tryz.func104, Tryz.ntmps104
  go_wp2_with fail
  refine (H.out _).mono ?_
  rintro e w1 ⟨rfl, hb⟩
  go_wp2
  go_ret2
  exact ⟨rfl, hb⟩

/-! ### Words of a line -/
set_option maxRecDepth 100000 in
theorem cWords (s : Bs) (hs : s.length ≤ 100000) (W : World) (hE : Env W) : Calls Tryz.prog 21 #[.string (S s)] W fun e w' =>
    ∃ g, e = .returned (.slice (some ⟨g, 0, none⟩) (wordsB s).length (wordsB s).length) ∧ TextsAt w' g (wordsB s) ∧ g < w'.heap.size ∧ Below W.heap.size W w' := by
  have HC : Hid (∀ W, Env W → Calls Tryz.prog 51 #[.string (S s), .string ⟨#[59]⟩] W (Tells (cutV s 59) W)) := fun W hE => cCut s 59 hs W hE
  have hcl : (cutB 59 s).length ≤ 100000 := by
    unfold cutB
    have := (List.takeWhile_prefix (fun x => decide (x ≠ 59)) (l := s)).length_le
    omega
  have HF := Lib.hid (fun W => cFields (cutB 59 s) hcl W)
  rw [← words_full] at HF
  unfold cutV at HC
  rw [cut_first] at HC
  have HE := Lib.hid hE
  clear hcl hs hE
  generalize S (cutB 59 s) = a at *
  generalize wordsB s = ws at *
  generalize S (Lib.cut s [59]).2.1 = b at *
  generalize (Lib.cut s [59]).2.2 = d at *
  go_enter Tryz.func21, Tryz.ntmps21
  go_wp2_with fail
  refine (HC.out _ HE.out).mono ?_
  rintro e w1 ⟨rfl, hb1⟩
  go_wp2_with fail
  refine (HF.out _).mono ?_
  rintro e w2 ⟨g, rfl, ht, hg, hb2⟩
  go_wp2
  go_ret
  exact ⟨g, rfl, ht, hg, hb1.trans (hb2.mono hb1.size)⟩

end Go.Proofs.YtpnjhodpbjhmcaaGreatDoor.Il
