/-
  The calls of a pen, walked: behind each the pen holds what it held and the bytes of what is written. Conditions: fewer than a million bytes.
-/
import Derived.Test.YtahmngmbgbcmhaaDoorOctPen
import Derived.Laws.BytesArg
import Derived.Lib.Strings
namespace Go.Proofs.YtahmngmbgbcmhaaDoor
open Go.RowKit
open Oct

theorem strCells_vals (s : ByteArray) : Lib.strCells s = vals s.data.toList := rfl
theorem size_list (s : ByteArray) : s.data.toList.length = s.size := Array.length_toList

set_option maxHeartbeats 800000 in
theorem text_any (N p : Nat) (l : List UInt8) (s : ByteArray) (w : World) (hp : PenAt N w p l) (hN : N ≤ w.heap.size) (hl : l.length + s.size ≤ 1000000) :
    Calls Tryd.prog 58 #[.pointer (some ⟨p, 0, none⟩), .string s] w fun e w' => e = .returned (.pointer (some ⟨p, 0, none⟩)) ∧ PenAt N w' p (l ++ s.data.toList) ∧ Below N w w' ∧ Beside w w' p := by
  obtain ⟨i0, hi, hz0, hz1, hz2⟩ := info_parts Tryd.infoOctet
  obtain ⟨v, hNp, hc, hf, hv⟩ := hp
  have hown0 : w.ownsRow N 5 1 v l.length (vals l) ∧ ((l = [] ∧ v = .slice none 0 0) ∨ ∃ g cap, 1 ≤ l.length ∧ v = .slice (some ⟨g, 0, none⟩) l.length cap ∧ g ≠ p) := by
    rcases hv with ⟨rfl, rfl⟩ | ⟨g, cap, h1, rfl, hne, hown⟩
    · exact ⟨World.ownsRow_nil w N 5 1, .inl ⟨rfl, rfl⟩⟩
    · exact ⟨hown, .inr ⟨g, cap, h1, rfl, hne⟩⟩
  obtain ⟨hown, hsh⟩ := hown0
  clear hv
  have HO := Lib.hid hown
  have HI := Lib.hid hi
  have H0 := Lib.hid hz0
  have H1 := Lib.hid hz1
  have H2 := Lib.hid hz2
  clear hown hi hz0 hz1 hz2
  rcases hsh with ⟨rfl, rfl⟩ | ⟨g, cap, h1, rfl, hne⟩
  all_goals
    go_enter Tryd.func58, Tryd.ntmps58
    go_wp2_with (at_builtin; refine Lib.wpList_append_own_string _ rfl (.tmp 11) (.tmp 12) 44 9 rfl N 5 i0 Tryd.underlying44 Tryd.underlying9 HI.out H0.out H1.out H2.out _ _ _ rfl HO.out s rfl (by unfold maxLen; omega) (by omega) hN ?_)
  · intro v' w' hown' hgrow hiff
    have hc' : w'.cell? ⟨p, 0, none⟩ = some _ := hgrow.cell hc (by simp [Value.ownBlock])
    have hf' : w'.frozen? ⟨p, 0, none⟩ = false := by
      rw [World.frozen?_of_block (w := w) (a := ⟨p, 0, none⟩) (hgrow.block p (World.block_lt_of_cell? w ⟨p, 0, none⟩ hc) (by simp [Value.ownBlock]))]
      exact hf
    have hbel : Below N w w' := (Below.refl N w).grown hgrow hN (fun k hk => (HO.out.lt k hk).1)
    rw [strCells_vals, ← vals_app] at hown'
    have hsz : s.size = ([] ++ s.data.toList : List UInt8).length := by rw [List.nil_append, size_list]
    have HS := Lib.hid hsz
    rw [hsz] at hown'
    clear hsz
    by_cases h0 : s = ByteArray.empty
    · obtain rfl : v' = .slice none 0 0 := hiff.2 h0
      have hnil : s.data.toList = [] := by rw [h0]; rfl
      have HP := Lib.hid (pen_stored (l := [] ++ s.data.toList) hNp hc' hf' (.inl ⟨by rw [hnil]; rfl, rfl⟩))
      have HQ := Lib.hid (fun u => beside_of (p := p) (u := u) HO.out hgrow)
      have HE := Lib.hid (hbel.setCell (p := ⟨p, 0, none⟩) hNp (.slice none 0 0))
      clear hown' hgrow hbel hiff h0 hnil HO HI H0 H1 H2
      go_wp2
      go_ret
      exact ⟨rfl, HP.out, HE.out, HQ.out _⟩
    · obtain ⟨g', cap', rfl, hheld⟩ := held_of (p := p) (by rw [← HS.out]; exact Nat.pos_of_ne_zero fun e => h0 (ByteArray.size_eq_zero_iff.1 e)) hown' hc' (by simp)
      have HP := Lib.hid (pen_stored hNp hc' hf' hheld)
      have HQ := Lib.hid (fun u => beside_of (p := p) (u := u) HO.out hgrow)
      have HE := Lib.hid (hbel.setCell (p := ⟨p, 0, none⟩) hNp (.slice (some ⟨g', 0, none⟩) ([] ++ s.data.toList).length cap'))
      clear hown' hgrow hheld hbel hiff HO HI H0 H1 H2 HS
      go_wp2
      go_ret
      exact ⟨rfl, by simpa [size_list] using HP.out, by simpa [size_list] using HE.out, HQ.out _⟩
  · intro v' w' hown' hgrow _
    have hlen : l.length + s.size = (l ++ s.data.toList).length := by rw [List.length_append, size_list]
    have hc' : w'.cell? ⟨p, 0, none⟩ = some _ := hgrow.cell hc (by simp [Value.ownBlock]; try (intro e; exact hne e.symm))
    have hf' : w'.frozen? ⟨p, 0, none⟩ = false := by
      rw [World.frozen?_of_block (w := w) (a := ⟨p, 0, none⟩) (hgrow.block p (World.block_lt_of_cell? w ⟨p, 0, none⟩ hc) (by simp [Value.ownBlock]; try (intro e; exact hne e.symm)))]
      exact hf
    have hbel : Below N w w' := (Below.refl N w).grown hgrow hN (fun k hk => (HO.out.lt k hk).1)
    rw [strCells_vals, ← vals_app, hlen] at hown'
    obtain ⟨g', cap', rfl, hheld⟩ := held_of (p := p) (by rw [← hlen]; omega) hown' hc' (by simp)
    have HP := Lib.hid (pen_stored hNp hc' hf' hheld)
    have HQ := Lib.hid (fun u => beside_of (p := p) (u := u) HO.out hgrow)
    have HE := Lib.hid (hbel.setCell (p := ⟨p, 0, none⟩) hNp (.slice (some ⟨g', 0, none⟩) (l ++ s.data.toList).length cap'))
    clear hown' hgrow hheld hbel hlen HO HI H0 H1 H2
    go_wp2
    go_ret
    exact ⟨rfl, by simpa [size_list] using HP.out, by simpa [size_list] using HE.out, HQ.out _⟩

/-- A row just laid holds what was laid. -/
theorem laid_cells (w : World) (cs : Array Value) (news : List UInt8) (h : cs = (vals news).toArray) :
    ∀ j u, (vals news)[j]? = some u → (w.alloc (.cells cs 5)).cell? ((⟨w.heap.size, 0, none⟩ : Addr).add j) = some u := by
  intro j u hu
  have hadd : (⟨w.heap.size, 0, none⟩ : Addr).add j = ⟨w.heap.size, j, none⟩ := by unfold Addr.add; split <;> simp_all
  rw [hadd, cell_of_row _ _ j cs 5 (0, 0) (heap_alloc_new w _), h]
  simpa using hu

theorem byte_val (m : Nat) : vals (be m 1) = [.int .u8 ((m % 256 : Nat) : Int)] := by
  simp [vals, be]

set_option maxHeartbeats 800000 in
theorem byte_any (N p : Nat) (l : List UInt8) (n : Int) (m : Nat) (hn : n = ((m % 256 : Nat) : Int)) (w : World) (hp : PenAt N w p l) (hN : N ≤ w.heap.size) (hl : l.length ≤ 900000) :
    Calls Tryd.prog 72 #[.pointer (some ⟨p, 0, none⟩), .int .u8 n] w fun e w' => e = .returned (.pointer (some ⟨p, 0, none⟩)) ∧ PenAt N w' p (l ++ be m 1) ∧ Below N w w' ∧ Beside w w' p := by
  have HN := Lib.hid hn; clear hn
  have hb : Below w.heap.size w (w.alloc (.cells #[.int .u8 n] 5)) := (Below.refl _ _).alloc (Nat.le_refl _) _
  have hp1 := hp.below hb
  have hb1 := hb.mono hN
  have hq1 := Beside.of_below (p := p) hb
  have HB := Lib.hid (laid_cells w #[.int .u8 n] (be m 1) (by rw [byte_val, HN.out]))
  clear hb
  go_enter Tryd.func72, Tryd.ntmps72
  go_wp2_with fail
  refine (put_any N p w.heap.size 1 l (be m 1) _ hp1 (by simp; omega) (be_length _ _) (by omega) (by omega) HB.out).mono ?_
  rintro e w1 ⟨rfl, hp2, hb2, hq2⟩
  have hq := hq1.trans hq2
  have hb := hb1.trans hb2
  clear hb1 hb2 hq1 hq2
  go_wp2
  go_ret
  exact ⟨rfl, hp2, hb, hq⟩

theorem two_val (k : Nat) (hk : k < 65536) : vals (be k 2) = [.int .u8 ((k : Int) / 256), .int .u8 ((k : Int) % 256)] := by
  simp [vals, be]; omega

theorem four_val (k : Nat) (hk : (k : Int) ≤ 4294967295) : vals (be k 4) = [.int .u8 ((k : Int) / 16777216), .int .u8 ((k : Int) / 65536 % 256), .int .u8 ((k : Int) / 256 % 256), .int .u8 ((k : Int) % 256)] := by
  simp [vals, be]; omega

set_option maxHeartbeats 800000 in
theorem two_any (N p : Nat) (l : List UInt8) (k : Nat) (hk : k < 65536) (w : World) (hp : PenAt N w p l) (hN : N ≤ w.heap.size) (hl : l.length ≤ 900000) :
    Calls Tryd.prog 56 #[.pointer (some ⟨p, 0, none⟩), .int .u16 (k : Int)] w fun e w' => e = .returned (.pointer (some ⟨p, 0, none⟩)) ∧ PenAt N w' p (l ++ be k 2) ∧ Below N w w' ∧ Beside w w' p := by
  have hb := fun cs => (Below.refl w.heap.size w).alloc (Nat.le_refl _) (.cells cs 5)
  go_enter Tryd.func56, Tryd.ntmps56
  go_wp2_with fail
  refine (put_any N p w.heap.size 2 l (be k 2) _ (hp.below (hb _)) (by simp; omega) (be_length _ _) (by omega) (by omega) (laid_cells w _ (be k 2) (by rw [two_val k hk]))).mono ?_
  rintro e w1 ⟨rfl, hp2, hb2, hq2⟩
  have hb3 := ((hb _).mono hN).trans hb2
  have hq3 := (Beside.of_below (p := p) (hb _)).trans hq2
  clear hb hb2 hq2
  go_wp2
  go_ret
  exact ⟨rfl, hp2, hb3, hq3⟩

set_option maxHeartbeats 800000 in
theorem four_any (N p : Nat) (l : List UInt8) (k : Nat) (hk : (k : Int) ≤ 4294967295) (w : World) (hp : PenAt N w p l) (hN : N ≤ w.heap.size) (hl : l.length ≤ 900000) :
    Calls Tryd.prog 55 #[.pointer (some ⟨p, 0, none⟩), .int .u32 (k : Int)] w fun e w' => e = .returned (.pointer (some ⟨p, 0, none⟩)) ∧ PenAt N w' p (l ++ be k 4) ∧ Below N w w' ∧ Beside w w' p := by
  have hb := fun cs => (Below.refl w.heap.size w).alloc (Nat.le_refl _) (.cells cs 5)
  go_enter Tryd.func55, Tryd.ntmps55
  go_wp2_with fail
  refine (put_any N p w.heap.size 4 l (be k 4) _ (hp.below (hb _)) (by simp; omega) (be_length _ _) (by omega) (by omega) (laid_cells w _ (be k 4) (by rw [four_val k hk]))).mono ?_
  rintro e w1 ⟨rfl, hp2, hb2, hq2⟩
  have hb3 := ((hb _).mono hN).trans hb2
  have hq3 := (Beside.of_below (p := p) (hb _)).trans hq2
  clear hb hb2 hq2
  go_wp2
  go_ret
  exact ⟨rfl, hp2, hb3, hq3⟩

set_option maxHeartbeats 800000 in
theorem psmall_yes (N p : Nat) (l : List UInt8) (s : ByteArray) (hs : s.size ≤ 255) (w : World) (hp : PenAt N w p l) (hN : N ≤ w.heap.size) (hl : l.length ≤ 900000) :
    Calls Tryd.prog 57 #[.pointer (some ⟨p, 0, none⟩), .string s] w fun e w' => e = .returned (.bool true) ∧ PenAt N w' p (l ++ (be s.size 1 ++ s.data.toList)) ∧ Below N w w' ∧ Beside w w' p := by
  go_enter Tryd.func57, Tryd.ntmps57
  go_wp2_with fail
  refine (byte_any N p l _ s.size (by omega) _ hp hN hl).mono ?_
  rintro e w1 ⟨rfl, hp1, hb1, hq1⟩
  have hN1 : N ≤ w1.heap.size := Nat.le_trans hN hb1.size
  go_wp2_with fail
  refine (text_any N p (l ++ be s.size 1) s _ hp1 hN1 (by rw [List.length_append, be_length]; omega)).mono ?_
  rintro e w2 ⟨rfl, hp2, hb2, hq2⟩
  rw [List.append_assoc] at hp2
  have hb := hb1.trans hb2
  have hq := hq1.trans hq2
  clear hb1 hb2 hp1 hq1 hq2
  go_wp2
  go_ret
  exact ⟨rfl, hp2, hb, hq⟩

set_option maxHeartbeats 800000 in
theorem psmall_no (p : Nat) (s : ByteArray) (hs : 255 < s.size) (w : World) :
    Calls Tryd.prog 57 #[.pointer (some ⟨p, 0, none⟩), .string s] w fun e w' => e = .returned (.bool false) ∧ w = w' := by
  go_enter Tryd.func57, Tryd.ntmps57
  go_wp2
  go_ret
  exact ⟨rfl, rfl⟩

set_option maxHeartbeats 800000 in
theorem newpen_any (N : Nat) (w : World) (hN : N ≤ w.heap.size) :
    Calls Tryd.prog 54 #[] w fun e w' => e = .returned (.pointer (some ⟨w.heap.size, 0, none⟩)) ∧ PenAt N w' w.heap.size [] ∧ Below w.heap.size w w' := by
  go_enter Tryd.func54, Tryd.ntmps54
  go_wp2
  go_ret
  refine ⟨rfl, ⟨.slice none 0 0, hN, by simp [go_sem], by simp [go_sem], .inl ⟨rfl, rfl⟩⟩, (Below.refl _ _).alloc (Nat.le_refl _) _⟩


theorem strOfNums_S (l : List UInt8) : strOfNums (l.map fun c => (c.toNat : Int)) = S l := by
  unfold strOfNums S
  rw [List.map_map]
  congr 2
  have : ((fun n : Int => UInt8.ofNat n.toNat) ∘ fun c : UInt8 => (c.toNat : Int)) = id := by
    funext c; simp
  rw [this, List.map_id]

set_option maxHeartbeats 800000 in
theorem pstr_any (N p : Nat) (l : List UInt8) (w : World) (hp : PenAt N w p l) :
    Calls Tryd.prog 61 #[.pointer (some ⟨p, 0, none⟩)] w fun e w' => e = .returned (.string (S l)) ∧ w = w' := by
  obtain ⟨v, hNp, hc, hf, hv⟩ := hp
  rcases hv with ⟨rfl, rfl⟩ | ⟨g, cap, h1, rfl, hne, hown⟩
  · have hk0 := run_convert_bytes_nil (P := Tryd.prog) w 44 5 Tryd.underlying44 Tryd.underlying5 0 0 9 Tryd.underlying9
    go_enter Tryd.func61, Tryd.ntmps61
    go_wp2
    go_ret
    exact ⟨rfl, rfl⟩
  · have hks := run_convert_bytes_arg (P := Tryd.prog) w 44 5 Tryd.underlying44 Tryd.underlying5 g 0 l.length cap (l.map fun c => (c.toNat : Int)) (by rw [List.length_map]) (fun i hi => by
      rw [Nat.zero_add, hown.cellAt i (by omega)]
      simp [vals, List.getD_eq_getElem?_getD, hi]) 9 Tryd.underlying9
    rw [strOfNums_S] at hks
    clear hown
    go_enter Tryd.func61, Tryd.ntmps61
    go_wp2
    go_ret
    exact ⟨rfl, rfl⟩

end Go.Proofs.YtahmngmbgbcmhaaDoor
