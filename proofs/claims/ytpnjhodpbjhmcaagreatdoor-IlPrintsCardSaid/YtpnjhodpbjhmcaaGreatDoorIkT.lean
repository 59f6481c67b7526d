/-
  The landed code's Spell, walked: all of it. Conditions: numbers that an int holds; the library's variables are as the program lays them.
-/
import Derived.Test.YtpnjhodpbjhmcaaGreatDoorIkQ
namespace Go.Proofs.YtpnjhodpbjhmcaaGreatDoor.Il
open Go.RowKit
open Go.Proofs.YtpnjhodpbjhmcaaGreatDoor.Ic

set_option maxRecDepth 100000 in
set_option maxHeartbeats 4000000 in
theorem cSpell_wrong (i : In) (h : rightI i = false) (hn : I64 i.n) (w : World) : Calls Tryz.prog 10 #[insV i] w (Tells (.string (S (spellL i))) w) := by
  have HR := Lib.hid (fun W => cRight_any i hn W)
  rw [h] at HR
  have hv : spellL i = [] := by unfold spellL; rw [h]; rfl
  rw [hv]
  have hX := Lib.hid (box5 w i 34)
  clear hv hn h
  unfold insV at HR ⊢
  go_enter Tryz.func10, Tryz.ntmps10
  go_wp2_with fail
  refine (HR.out _).mono ?_
  rintro e w1 ⟨rfl, hb1⟩
  have hN := (hX.out.next hb1).2
  go_wp2
  go_ret
  exact ⟨rfl, hN.1⟩

set_option maxRecDepth 100000 in
set_option maxHeartbeats 4000000 in
theorem cSpell_bare (o : Nat) (ho : o < 37) (hb : bareB o = true) (w : World) : Calls Tryz.prog 10 #[insV ⟨(o : Int), 0, 0, 0, 0⟩] w (Tells (.string (S (spellL ⟨(o : Int), 0, 0, 0, 0⟩))) w) := by
  have h : rightI ⟨(o : Int), 0, 0, 0, 0⟩ = true := way_right (.bare hb rfl rfl rfl rfl)
  obtain ⟨g1, g2, g3, g4, g5, g6, g7, g8, g9, g10, g11⟩ := (op_facts o).2.2.2 hb
  have hf : formI (o : Int) = 1 := by unfold formI; simp [g1, g2, g3, hb]
  have HR := Lib.hid (fun W => cRight_any ⟨(o : Int), 0, 0, 0, 0⟩ (by constructor <;> dsimp only <;> omega) W)
  rw [h] at HR
  have HF := Lib.hid (fun W => cForm_any (o : Int) W)
  rw [hf] at HF
  have HN := Lib.hid (fun W => cNameOf_any o ho W)
  have hv : spellL ⟨(o : Int), 0, 0, 0, 0⟩ = opName (o : Int) := by
    unfold spellL
    rw [h, if_pos rfl]
    unfold spellW
    simp only [if_neg g6, if_neg g5, hb, if_true]
    rfl
  rw [hv]
  have hX := Lib.hid (box5 w ⟨(o : Int), 0, 0, 0, 0⟩ 34)
  have hq : ((o : Int) == 33) = false := by rw [beq_eq_false_iff_ne]; exact g6
  clear hv h hf hb g1 g2 g3 g4 g5 g6 g7 g8 g9 g10 g11
  generalize S (opName (o : Int)) = nm at *
  unfold insV at HR ⊢
  go_enter Tryz.func10, Tryz.ntmps10
  go_wp2_with fail
  refine (HR.out _).mono ?_
  rintro e w1 ⟨rfl, hb1⟩
  have hX1 := Lib.hid (hX.out.next hb1)
  obtain ⟨⟨c0, c1, c2, c3, c4⟩, -⟩ := hX1.out
  dsimp only at c0 c1 c2 c3 c4
  clear hX hb1
  go_wp2_with fail
  refine (HF.out _).mono ?_
  rintro e w2 ⟨rfl, rfl⟩
  go_wp2_with fail
  refine (HN.out _).mono ?_
  rintro e w3 ⟨rfl, hb3⟩
  have hN := (hX1.out.next hb3).2
  go_wp2
  go_ret
  exact ⟨rfl, hN.1⟩

set_option maxRecDepth 100000 in
set_option maxHeartbeats 4000000 in
theorem cSpell_close (w : World) : Calls Tryz.prog 10 #[insV ⟨33, 0, 0, 0, 0⟩] w (Tells (.string (S (spellL ⟨33, 0, 0, 0, 0⟩))) w) := by
  have h : rightI ⟨33, 0, 0, 0, 0⟩ = true := way_right (.close rfl rfl rfl rfl rfl)
  have HR := Lib.hid (fun W => cRight_any ⟨33, 0, 0, 0, 0⟩ (by constructor <;> dsimp only <;> omega) W)
  rw [h] at HR
  have HF := Lib.hid (fun W => cForm_any 33 W)
  rw [show formI 33 = 1 from rfl] at HF
  have hv : spellL ⟨33, 0, 0, 0, 0⟩ = [41] := by
    unfold spellL
    rw [h, if_pos rfl]
    rfl
  rw [hv]
  have hX := Lib.hid (box5 w ⟨33, 0, 0, 0, 0⟩ 34)
  clear hv h
  unfold insV at HR ⊢
  go_enter Tryz.func10, Tryz.ntmps10
  go_wp2_with fail
  refine (HR.out _).mono ?_
  rintro e w1 ⟨rfl, hb1⟩
  obtain ⟨⟨c0, c1, c2, c3, c4⟩, hN⟩ := hX.out.next hb1
  dsimp only at c0 c1 c2 c3 c4
  clear hX hb1
  go_wp2_with fail
  refine (HF.out _).mono ?_
  rintro e w2 ⟨rfl, rfl⟩
  go_wp2
  go_ret
  exact ⟨rfl, hN.1⟩

set_option maxRecDepth 100000 in
set_option maxHeartbeats 4000000 in
theorem cSpell_opens (o : Nat) (ho : o < 37) (hrd : readsB o = true) (h2 : 2 < (o : Int)) (w : World) : Calls Tryz.prog 10 #[insV ⟨32, 0, 0, (o : Int), 0⟩] w (Tells (.string (S (spellL ⟨32, 0, 0, (o : Int), 0⟩))) w) := by
  have h : rightI ⟨32, 0, 0, (o : Int), 0⟩ = true := way_right (.opens rfl rfl rfl hrd h2 rfl)
  have HR := Lib.hid (fun W => cRight_any ⟨32, 0, 0, (o : Int), 0⟩ (by constructor <;> dsimp only <;> omega) W)
  rw [h] at HR
  have HF := Lib.hid (fun W => cForm_any 32 W)
  rw [show formI 32 = 6 from rfl] at HF
  have HN := Lib.hid (fun W => cNameOf_any o ho W)
  have hnl : (opName (o : Int)).length ≤ 5 := by unfold opName; rw [Int.toNat_natCast]; exact name_len ⟨o, ho⟩
  obtain ⟨t1, e1, l1, m1⟩ := glue (p := S (opName (o : Int))) (q := ⟨#[40]⟩) (b := [40]) 5 1 rfl rfl hnl (by decide) (by decide)
  have hv : S (spellL ⟨32, 0, 0, (o : Int), 0⟩) = t1 := by
    rw [e1]
    congr 1
    unfold spellL
    rw [h, if_pos rfl]
    rfl
  rw [hv]
  have hX := Lib.hid (box5 w ⟨32, 0, 0, (o : Int), 0⟩ 34)
  clear hv h hrd h2 e1 l1 hnl
  generalize S (opName (o : Int)) = nm at *
  unfold insV at HR ⊢
  go_enter Tryz.func10, Tryz.ntmps10
  go_wp2_with fail
  refine (HR.out _).mono ?_
  rintro e w1 ⟨rfl, hb1⟩
  have hX1 := Lib.hid (hX.out.next hb1)
  obtain ⟨⟨c0, c1, c2, c3, c4⟩, -⟩ := hX1.out
  dsimp only at c0 c1 c2 c3 c4
  clear hX hb1
  go_wp2_with fail
  refine (HF.out _).mono ?_
  rintro e w2 ⟨rfl, rfl⟩
  go_wp2_with fail
  refine (HN.out _).mono ?_
  rintro e w3 ⟨rfl, hb3⟩
  have hN := (hX1.out.next hb3).2
  go_wp2
  go_ret
  exact ⟨rfl, hN.1⟩

theorem cSpell_any (i : In) (hn : I64 i.n) (w : World) (hE : Env w) : Calls Tryz.prog 10 #[insV i] w (Tells (.string (S (spellL i))) w) := by
  by_cases hri : rightI i = true
  · have hr := op_range hri
    obtain ⟨o, ho⟩ : ∃ o : Nat, i.op = (o : Int) := ⟨i.op.toNat, by omega⟩
    have ho37 : o < 37 := by omega
    have hway := right_way hri
    obtain ⟨op, kd, ar, pl, n⟩ := i
    dsimp only at ho
    subst ho
    cases hway with
    | lit h ha hp hnn =>
      dsimp only at h ha hp hnn
      subst ha hp
      have hbd := is_bd hnn
      obtain ⟨g1, g2, g3, g4, g5, g6, g7, g8, g9, g10, g11⟩ := (op_facts o).1 h
      refine cSpell_op2 o ho37 kd 0 0 n hn ⟨nmI kd ++ 35 :: Lib.itoa n, ?_, ?_, fun W hE => cOper_lit (o : Int) kd 0 n (by omega) (by omega) W hE⟩ hri (by unfold formI; simp [h]) w hE
      · have := kind_len kd
        have := itoa_len n (by omega) (by omega)
        simp; omega
      · unfold spellW argL
        simp [g2, g3, g4, g5, g6, g7, g8, g9]
    | get h h1 h4 ht hnn =>
      dsimp only at h h1 h4 ht hnn
      subst hnn
      obtain ⟨g1, g2, g3, g4, g5, g6, g7, g8, g9, g10, g11⟩ := (op_facts o).1 h
      have hpl : 0 ≤ pl ∧ pl ≤ 99 := by unfold thereB at ht; rw [decide_eq_true_iff] at ht; omega
      refine cSpell_op2 o ho37 kd ar pl 0 hn ⟨areaL ar pl ++ 58 :: nmI kd, ?_, ?_, fun W hE => cOper_get (o : Int) kd ar pl 0 h1 h4 hpl.1 hpl.2 W hE⟩ hri (by unfold formI; simp [h]) w hE
      · have := kind_len kd
        have := area_len ar pl (by omega)
        simp; omega
      · have : ¬ ar = 0 := by omega
        unfold spellW argL
        simp [g2, g3, g4, g5, g6, g7, g8, g9, this]
    | put h h1 h4 ht hnn =>
      dsimp only at h h1 h4 ht hnn
      subst hnn
      obtain ⟨g1, g2, g3, g4, g5, g6, g7, g8, g9, g10, g11⟩ := (op_facts o).2.1 h
      have hpl : 0 ≤ pl ∧ pl ≤ 99 := by unfold thereB at ht; rw [decide_eq_true_iff] at ht; omega
      refine cSpell_op3 o ho37 kd ar pl 0 hn ⟨areaL ar pl ++ 58 :: nmI kd, ?_, ?_, fun W hE => cOper_get (o : Int) kd ar pl 0 (by omega) h4 hpl.1 hpl.2 W hE⟩ hri (by unfold formI; simp [h, g1]) w hE
      · have := kind_len kd
        have := area_len ar pl (by omega)
        simp; omega
      · have : ¬ ar = 0 := by omega
        unfold spellW argL
        simp [g2, g3, g4, g5, g6, g7, g8, g9, this]
    | jump h hk ha h0 h1 hnn =>
      dsimp only at h hk ha h0 h1 hnn
      subst hk ha hnn
      obtain ⟨g1, g2, g3, g4, g5, g6, g7, g8, g9, g10, g11⟩ := (op_facts o).2.2.1 h
      exact cSpell_jump o ho37 pl h0 h1 (by unfold spellW argL; simp [g3, g5, g6, h]) hri (by unfold formI; simp [g1, g2, h]) w hE
    | bare h hk ha hp hnn =>
      dsimp only at h hk ha hp hnn
      subst hk ha hp hnn
      exact cSpell_bare o ho37 h w
    | close h hk ha hp hnn =>
      dsimp only at h hk ha hp hnn
      subst hk ha hp hnn
      rw [h]
      exact cSpell_close w
    | conv h hk ha hp hnn =>
      dsimp only at h hk ha hp hnn
      subst ha hp hnn
      obtain rfl : o = 31 := by omega
      exact cSpell_conv 31 (by omega) kd rfl hri rfl w hE
    | opens h hk ha hr2 hp hnn =>
      dsimp only at h hk ha hr2 hp hnn
      obtain ⟨k1, k2, k3, k4, k5, k6, k7, k8, k9, k10, k11⟩ := (op_facts pl).1 hr2
      obtain ⟨q, hq⟩ : ∃ q : Nat, pl = (q : Int) := ⟨pl.toNat, by omega⟩
      subst hk ha hnn hq
      rw [h]
      exact cSpell_opens q (by omega) hr2 hp w
    | timer h hk h3 h4 h0 h1 hnn hm =>
      dsimp only at h hk h3 h4 h0 h1 hnn hm
      subst hk
      have hw : spellW ⟨(o : Int), 0, ar, pl, n⟩ = [opName (o : Int), areaL ar pl ++ 44 :: Lib.itoa n] ∧ formI (o : Int) = 7 := by
        rcases h with h | h <;> (rw [h]; exact ⟨rfl, rfl⟩)
      exact cSpell_timer o ho37 ar pl n h3 h4 h0 (by omega) hnn hm hw.1 hri hw.2 w hE
    | trig h hk h3 h4 h0 h1 hnn =>
      dsimp only at h hk h3 h4 h0 h1 hnn
      subst hk hnn
      obtain rfl : o = 36 := by omega
      exact cSpell_trig 36 (by omega) ar pl h3 h4 h0 h1 rfl hri rfl w hE
  · exact cSpell_wrong i (by simpa using hri) hn w

end Go.Proofs.YtpnjhodpbjhmcaaGreatDoor.Il
