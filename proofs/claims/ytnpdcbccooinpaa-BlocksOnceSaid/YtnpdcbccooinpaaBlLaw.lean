/-
  The laws' first look; BlocksLists, BlocksOnce: they return true. Conditions: that the list's places are as many as its blocks at least.
-/
import Derived.Test.YtnpdcbccooinpaaBlRefC
namespace Go.Proofs.Ytnpdcbccooinpaa.Bl
open Go.RowKit

theorem own_kept {N : Nat} {w w' : World} {v : Value} {e : TypeId} {n : Nat} {l : List Value} (h : w.ownsRow N e 1 v n l) (hb : Below w.heap.size w w') : w'.ownsRow N e 1 v n l := by
  rcases h.2 with ⟨rfl, h0⟩ | ⟨g, cap, cur, rfl, hN, hg, h1, h2, h3, h4⟩
  · exact ⟨h.1, .inl ⟨rfl, h0⟩⟩
  · exact ⟨h.1, .inr ⟨g, cap, cur, rfl, hN, (hb.block g (Array.getElem?_eq_some_iff.1 hg).1).trans hg, h1, h2, h3, h4⟩⟩
theorem Row.kept {N : Nat} {w w' : World} {v : Value} {l : List Int} (h : Row N w v l) (hb : Below w.heap.size w w') : Row N w' v l := own_kept h hb
def eight (x y : Blk) : Array Value := #[.int .i64 x.id, .int .i64 x.ad, .int .i64 x.sz, .bool x.hi, .int .i64 y.id, .int .i64 y.ad, .int .i64 y.sz, .bool y.hi]
theorem lies_eight (W : World) (x y : Blk) (t : TypeId) : Lies (W.alloc (.cells (eight x y) t)) (W.alloc (.cells (eight x y) t)).heap.size (some ⟨W.heap.size, 0, none⟩) [x, y] := fun _ => by
  refine ⟨W.heap.size, 0, rfl, by simp, fun i z hz => ?_⟩
  have hc : ∀ j v, (eight x y)[j]? = some v → (W.alloc (.cells (eight x y) t)).cell? ⟨W.heap.size, j, none⟩ = some v := fun j v hv => by rw [cell_of_row _ _ _ _ _ _ (heap_alloc_new _ _)]; exact hv
  match i with
  | 0 => injection hz with hz; subst hz; exact ⟨hc 0 _ rfl, hc 1 _ rfl, hc 2 _ rfl, hc 3 _ rfl⟩
  | 1 => injection hz with hz; subst hz; exact ⟨hc 4 _ rfl, hc 5 _ rfl, hc 6 _ rfl, hc 7 _ rfl⟩
  | i + 2 => simp at hz
theorem chk_two : chkB [⟨3, 1, 5, false⟩, ⟨3, 2, 5, false⟩] = (14, 1) := by decide
theorem piece_two : atP 33 2 = 32 ∧ lenP 33 2 = 1 ∧ partsN 33 = 3 := by decide

set_option maxRecDepth 100000 in
set_option maxHeartbeats 4000000 in
theorem wake_any (w : World) : Calls Try.prog 6 #[] w (Tells (.bool true) w) := by
  obtain ⟨p1, p2, p3⟩ := piece_two
  have HP := Lib.hid (fun W => cPiece_any 33 2 W ⟨by omega, by omega⟩)
  rw [p1, p2] at HP
  have HN := Lib.hid (fun W => cParts_any 33 W)
  rw [p3] at HN
  have HC := Lib.hid (fun W => cCheck_any [⟨3, 1, 5, false⟩, ⟨3, 2, 5, false⟩] (some ⟨W.heap.size, 0, none⟩) 2 (W.alloc (.cells (eight ⟨3, 1, 5, false⟩ ⟨3, 2, 5, false⟩) 30)) (lies_eight W _ _ _) (Nat.le_refl _) (by unfold maxLen; decide))
  rw [chk_two] at HC
  unfold eight chkV at HC
  dsimp only [List.length_cons, List.length_nil] at HC
  clear p1 p2 p3
  go_enter Try.func6, Try.ntmps6
  go_wp2_with fail
  refine (HP.out _).mono ?_
  rintro e w1 ⟨rfl, rfl⟩
  go_wp2_with fail
  refine (HC.out _).mono ?_
  rintro e w2 ⟨rfl, hb2⟩
  have B2 := Lib.hid ((one_S w _ _).trans (hb2.mono (by simp)))
  clear hb2
  go_wp2_with fail
  refine (HN.out _).mono ?_
  rintro e w3 ⟨rfl, rfl⟩
  go_wp2
  go_ret
  exact ⟨rfl, B2.out⟩

set_option maxRecDepth 100000 in
set_option maxHeartbeats 4000000 in
theorem lists_walk (l : List Blk) (ao : Option Addr) (cap : Nat) (id a : Int) (w : World) (hI : Lies w w.heap.size ao l) (hc : l.length ≤ cap) (hm : cap ≤ maxLen) :
    Calls Try.prog 3 #[.slice ao l.length cap, .int .i64 id, .int .i64 a] w (Tells (.bool true) w) := by
  have HA := Lib.hid (At.first hI)
  have hml : l.length ≤ maxLen := by omega
  by_cases h40 : 40 < l.length
  · have e1 : decide ((40 : Int) < (l.length : Int)) = true := by simp; omega
    clear hI
    go_enter Try.func3, Try.ntmps3
    go_wp2_with fail
    refine (wake_any _).mono ?_
    rintro e w1 ⟨rfl, hb1⟩
    have HA1 := Lib.hid (HA.out.next hb1)
    clear hb1
    go_wp2
    go_ret
    exact ⟨rfl, HA1.out.below⟩
  have e1 : decide ((40 : Int) < (l.length : Int)) = false := by simp; omega
  have HC := Lib.hid (fun W (h : At w W ao l) => cCheck_any l ao cap W h.lies hc hm)
  have HD := Lib.hid (fun W (h : At w W ao l) => rCheck_any l ao cap W h.lies hml)
  have HF := fun W (h : At w W ao l) => cFind_any l ao cap id W h.lies hml
  have HG := fun W (h : At w W ao l) => rFind_any l ao cap id W h.lies hml
  unfold chkV at HC HD
  unfold foundV blkV at HF HG
  have HO := Lib.hid (fun W (h : At w W ao l) => cOf_any l ao cap a W h.lies (by omega))
  have HQ := Lib.hid (fun W (h : At w W ao l) => rOf_any l ao cap a W h.lies (by omega))
  have hol : (ofB l a).length ≤ 40 := by have := of_len l a; omega
  generalize chkB l = r at HC HD
  generalize findB l id = f at HF HG
  generalize ofB l a = xs at *
  obtain ⟨r1, r2⟩ := r
  obtain ⟨⟨f1, f2, f3, f4⟩, f5⟩ := f
  replace HF := Lib.hid HF
  replace HG := Lib.hid HG
  clear hI hml h40
  go_enter Try.func3, Try.ntmps3
  go_wp2_with fail
  refine (wake_any _).mono ?_
  rintro e w1 ⟨rfl, hb1⟩
  have HA1 := Lib.hid (HA.out.next hb1)
  clear hb1 HA
  go_wp2_with fail
  refine (HC.out _ HA1.out).mono ?_
  rintro e w2 ⟨rfl, hb1⟩
  have HA2 := Lib.hid (HA1.out.next hb1)
  clear hb1 HA1
  go_wp2_with fail
  refine (HD.out _ HA2.out).mono ?_
  rintro e w3 ⟨rfl, hb1⟩
  have HA3 := Lib.hid (HA2.out.next hb1)
  clear hb1 HA2
  go_wp2_with fail
  refine (HF.out _ HA3.out).mono ?_
  rintro e w4 ⟨rfl, hb1⟩
  have HA4 := Lib.hid (HA3.out.next hb1)
  clear hb1 HA3
  have o4 := one_S w4 #[.int .i64 f1, .int .i64 f2, .int .i64 f3, .bool f4] 30
  have HB5 := Lib.hid (Own4.new w4 ⟨f1, f2, f3, f4⟩ 30)
  have HA5 := Lib.hid (HA4.out.next o4)
  clear HA4 o4
  go_wp2_with fail
  refine (HG.out _ HA5.out).mono ?_
  rintro e w6 ⟨rfl, hb1⟩
  have HA6 := Lib.hid (HA5.out.next hb1)
  have HB6 := Lib.hid (HB5.out.kept hb1 HB5.out.lt)
  clear hb1 HA5 HB5
  generalize w4.heap.size = b4 at *
  have o6 := one_S w6 #[.int .i64 f1, .int .i64 f2, .int .i64 f3, .bool f4] 30
  have HC7 := Lib.hid (Own4.new w6 ⟨f1, f2, f3, f4⟩ 30)
  have HA7 := Lib.hid (HA6.out.next o6)
  obtain ⟨d0, d1, d2, d3⟩ := HB6.out.cells
  have hlt4 := HB6.out.lt
  obtain ⟨g0, g1, g2, g3⟩ := HC7.out.cells
  clear HA6 o6 HC7
  dsimp only at d0 d1 d2 d3 g0 g1 g2 g3
  go_wp2_with fail
  refine (HO.out _ HA7.out).mono ?_
  rintro e w8 ⟨v1, rfl, ho8, hb1⟩
  have HA8 := Lib.hid (HA7.out.next hb1)
  have HO8 := Lib.hid ho8
  clear hb1 HA7 ho8
  go_wp2_with fail
  refine (HQ.out _ HA8.out).mono ?_
  rintro e w9 ⟨v2, rfl, ho9, hb1⟩
  have HA9 := Lib.hid (HA8.out.next hb1)
  have HO9 := Lib.hid (HO8.out.kept hb1)
  have HQ9 := Lib.hid ho9
  have hsm := Lib.hid (same_any _ _ v1 v2 xs w9 HO9.out HQ9.out hol)
  clear hb1 HA8 ho9 HO8
  go_wp2_with fail
  refine (hsm.out).mono ?_
  rintro e w10 ⟨rfl, hb1⟩
  have HA10 := Lib.hid (HA9.out.next hb1)
  clear hb1 HA9 HO9 HQ9 hsm
  go_wp2
  go_ret
  exact ⟨rfl, HA10.out.below⟩

set_option maxRecDepth 100000 in
set_option maxHeartbeats 8000000 in
theorem once_walk (l : List Blk) (ao : Option Addr) (cap : Nat) (w : World) (hI : Lies w w.heap.size ao l) (hc : l.length ≤ cap) (hm : cap ≤ maxLen) :
    Calls Try.prog 5 #[.slice ao l.length cap] w (Tells (.bool true) w) := by
  have HA := Lib.hid (At.first hI)
  have hml : l.length ≤ maxLen := by omega
  by_cases h16 : 16 < l.length
  · have e1 : decide ((16 : Int) < (l.length : Int)) = true := by simp; omega
    clear hI
    go_enter Try.func5, Try.ntmps5
    go_wp2_with fail
    refine (wake_any _).mono ?_
    rintro e w1 ⟨rfl, hb1⟩
    have HA1 := Lib.hid (HA.out.next hb1)
    clear hb1
    go_wp2
    go_ret
    exact ⟨rfl, HA1.out.below⟩
  have e1 : decide ((16 : Int) < (l.length : Int)) = false := by simp; omega
  have HC := Lib.hid (fun W (h : At w W ao l) => cCheck_any l ao cap W h.lies hc hm)
  by_cases hz : (chkB l).1 = 0
  · have hO := Lib.hid (fun (a : Int) W (h : At w W ao l) => cOf_any l ao cap a W h.lies (by omega))
    have hF := Lib.hid (fun (id : Int) W (h : At w W ao l) => cFind_any l ao cap id W h.lies hml)
    have hown := Lib.hid (fun (a : Int) (j : Nat) (hj : j < (ofB l a).length) => of_mem (List.getElem_mem hj))
    have hfind := Lib.hid (fun b hb => find_own hz (b := b) hb)
    have hall := Lib.hid (cnt_all hz)
    have hof : Hid (∀ a : Int, (ofB l a).length ≤ 16) := Lib.hid (fun a => by have := of_len l a; omega)
    have hcn : Hid (∀ a : Nat, a ≤ 32 → cntB l a ≤ 512) := Lib.hid (fun a ha => by
      have key : ∀ a : Nat, cntB l a ≤ 16 * a := by
        intro a
        induction a with
        | zero => exact Nat.le_refl 0
        | succ a ih => rw [cnt_next]; have := hof.out (a : Nat); omega
      have := key a
      omega)
    have hz0 : (chkB l) = (0, (chkB l).2) := by rw [← hz]
    rw [hz0] at HC
    unfold chkV at HC
    generalize (chkB l).2 = r2 at HC
    clear hI hz hz0 h16
    go_enter Try.func5, Try.ntmps5
    go_wp2_with fail
    refine (wake_any _).mono ?_
    rintro e w1 ⟨rfl, hb1⟩
    have HA1 := Lib.hid (HA.out.next hb1)
    clear hb1 HA
    go_wp2_with fail
    refine (HC.out _ HA1.out).mono ?_
    rintro e w2 ⟨rfl, hb1⟩
    have HA2 := Lib.hid (HA1.out.next hb1)
    clear hb1 HA1 HC
    go_wp2
    go_loopw [5, 27] (fun n i W => ∃ a : Nat, (a : Int) ≤ 32 ∧ i = .int .i64 a ∧ n = .int .i64 (cntB l a : Nat) ∧ Hid (At w W ao l)) (fun _ i _ => 32 - (intOf i).toNat)
    case atStart => exact ⟨0, by omega, rfl, rfl, HA2⟩
    case round =>
      obtain ⟨a, ha, rfl, rfl, hA⟩ := hrel
      clear HA2
      by_cases h32 : (a : Int) < 32
      · have hlen := hof.out a
        have hcb := hcn.out a (by omega)
        have hnx := Lib.hid (cnt_next l a)
        have hOa := Lib.hid (fun W h => hO.out a W h)
        have hmem := hown.out a
        generalize hxs : ofB l (a : Nat) = xs at *
        have hmem := Lib.hid hmem
        generalize hcc : cntB l a = c at *
        go_wp2_with fail
        refine (hOa.out _ hA.out).mono ?_
        rintro e w3 ⟨v, rfl, hr, hb1⟩
        have HA3 := Lib.hid (hA.out.next hb1)
        obtain ⟨A, cp, rfl⟩ := own_form hr
        have HR3 := Lib.hid hr
        clear hb1 hA hr
        go_wp2
        go_loopw [5, 34] (fun n j W => ∃ q : Nat, q ≤ xs.length ∧ j = .int .i64 q ∧ n = .int .i64 ((c + q : Nat) : Int) ∧ Hid (At w W ao l ∧ Row wr.heap.size W (.slice A xs.length cp) xs)) (fun _ j _ => xs.length - (intOf j).toNat)
        case atStart => exact ⟨0, by omega, rfl, rfl, Lib.hid ⟨HA3.out, HR3.out⟩⟩
        case round =>
          obtain ⟨q, hq, rfl, rfl, hP⟩ := hrel
          clear HA3 HR3
          by_cases hqk : q < xs.length
          · have e3 : decide ((q : Int) < (xs.length : Int)) = true := by simp; omega
            obtain ⟨g, rfl⟩ : ∃ g, A = some ⟨g, 0, none⟩ := by
              rcases hP.out.2.2 with ⟨h, h0⟩ | ⟨g', cap, cur, h, _⟩
              · injection h with _ h _; omega
              · injection h with h _ _; exact ⟨g', h⟩
            have hc0 := hP.out.2.cellAt hqk
            obtain ⟨x, hx, hid, had⟩ := hmem.out q hqk
            have hgd : xs.getD q 0 = x.id := by rw [List.getD_eq_getElem?_getD, List.getElem?_eq_getElem hqk]; exact hid.symm
            rw [hgd] at hc0
            have hfx := hfind.out x hx
            have HFx := fun W h => hF.out x.id W h
            rw [hfx] at HFx
            unfold foundV blkV at HFx
            replace HFx := Lib.hid HFx
            clear hfx hgd hid hx
            obtain ⟨xi, xa, xz, xh⟩ := x
            dsimp only at *
            subst had
            go_wp2_with fail
            refine (HFx.out _ hP.out.1).mono ?_
            rintro e w4 ⟨rfl, hb1⟩
            have o4 := one_S w4 #[.int .i64 xi, .int .i64 a, .int .i64 xz, .bool xh] 30
            have hP1 := Lib.hid (show At w _ ao l ∧ Row _ _ (.slice (some ⟨g, 0, none⟩) xs.length cp) xs from ⟨(hP.out.1.next hb1).next o4, (hP.out.2.kept hb1).kept o4⟩)
            clear hb1 o4 hP hc0
            go_wp2
            go_roundw
            case rel => exact ⟨q + 1, by omega, by go_num, by go_num, hP1⟩
            case measure => simp [intOf]; omega
          · obtain rfl : q = xs.length := by omega
            have hn1 : cntB l (a + 1) = c + xs.length := hnx.out
            go_wp2
            go_roundw
            case rel => exact ⟨a + 1, by omega, by go_num, by rw [hn1], Lib.hid hP.out.1⟩
            case measure => simp [intOf]; omega
      · obtain rfl : a = 32 := by omega
        have hfin := hall.out
        rw [hfin]
        clear hfin
        have e3 : ((l.length : Int) == (l.length : Int)) = true := by simp
        go_wp2
        go_ret
        exact ⟨rfl, hA.out.below⟩
  · have hlt := chk_lt hz
    have hne : ((chkB l).1 != 0) = true := by simpa using hz
    have e2 : decide ((chkB l).2 < l.length) = true := by simp; omega
    unfold chkV at HC
    generalize chkB l = r at *
    obtain ⟨r1, r2⟩ := r
    dsimp only at *
    clear hI hml h16 hz hlt
    go_enter Try.func5, Try.ntmps5
    go_wp2_with fail
    refine (wake_any _).mono ?_
    rintro e w1 ⟨rfl, hb1⟩
    have HA1 := Lib.hid (HA.out.next hb1)
    clear hb1 HA
    go_wp2_with fail
    refine (HC.out _ HA1.out).mono ?_
    rintro e w2 ⟨rfl, hb1⟩
    have HA2 := Lib.hid (HA1.out.next hb1)
    clear hb1 HA1
    go_wp2
    go_ret
    exact ⟨rfl, HA2.out.below⟩
end Go.Proofs.Ytnpdcbccooinpaa.Bl
