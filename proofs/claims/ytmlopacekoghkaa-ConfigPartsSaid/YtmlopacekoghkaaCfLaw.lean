/-
  The laws' first look, and Small, walked. Conditions: none.
-/
import Derived.Test.YtmlopacekoghkaaCfCheck
import Derived.Test.YtmlopacekoghkaaCfFn
import Derived.Test.YtmlopacekoghkaaCfSets
namespace Go.Proofs.Ytmlopacekoghkaa.Cf
open Go.RowKit
open Go.Proofs.Ytmlopacekoghkaa.Bl (Blk Spt findB layO noS Tells I64 one_S cell_of_row kept_own blkV spV Own2 Own4)
open Go.Proofs.Ytmlopacekoghkaa.Il (In)

def s1 : Sta := ⟨3, 1, 0, [], [], [], noH, noH, noH⟩
def s2 : Sta := ⟨3, 2, 0, [], [], [], noH, noH, noH⟩
def two (p : Nat) : Clu := ⟨4, 10, 1, 0, 9, 5, [], [s1, s2], noH, ⟨some ⟨p, 0, none⟩, 2⟩⟩
def row2 : Array Value := #[.int .i64 3, .int .i64 1, .int .i64 0, .slice none 0 0, .slice none 0 0, .slice none 0 0, .int .i64 3, .int .i64 2, .int .i64 0, .slice none 0 0, .slice none 0 0, .slice none 0 0]
theorem fit_h0 : FitH noH 0 := ⟨Nat.le_refl _, Nat.zero_le _, fun _ => rfl⟩
theorem fit_s1 : FitS s1 := ⟨fit_h0, fit_h0, fit_h0, fun k x hx => by simp [s1] at hx⟩
theorem fit_s2 : FitS s2 := ⟨fit_h0, fit_h0, fit_h0, fun k x hx => by simp [s2] at hx⟩
theorem two_at {p k : Nat} {x : Sta} (h : (two p).st[k]? = some x) : x = s1 ∨ x = s2 := by
  match k with
  | 0 => injection h with h; exact .inl h.symm
  | 1 => injection h with h; exact .inr h.symm
  | k + 2 => simp [two] at h
theorem fit_two (p : Nat) : FitC (two p) := ⟨fit_h0, ⟨Nat.le_refl _, by show (2 : Nat) ≤ maxLen; unfold maxLen; decide, fun e => by cases e⟩, fun k x hx => by
  rcases two_at hx with rfl | rfl
  · exact fit_s1
  · exact fit_s2⟩
theorem short_two (p : Nat) : ShortC (two p) := fun k x hx => by
  rcases two_at hx with rfl | rfl
  · exact ⟨by decide, by decide, by decide⟩
  · exact ⟨by decide, by decide, by decide⟩
theorem chk_two (p : Nat) : chkC (two p) = (14, 101) := rfl
theorem find_two (p : Nat) : findC (two p).st 3 = (s1, true) := rfl
theorem addr_two (p : Nat) : addrK (two p).st (two p).st.length = 8#32 := rfl
theorem stal_nil {w : World} {N : Nat} {x : Sta} (h : x = s1 ∨ x = s2) : StaL w N x := by
  rcases h with rfl | rfl
  · exact ⟨fun h => by simp [s1] at h, fun h => by simp [s1] at h, fun h => by simp [s1] at h⟩
  · exact ⟨fun h => by simp [s2] at h, fun h => by simp [s2] at h, fun h => by simp [s2] at h⟩
theorem lies_two (W : World) (t : TypeId) : CluL (W.alloc (.cells row2 t)) (W.alloc (.cells row2 t)).heap.size (two W.heap.size) := by
  refine ⟨fun h => by simp [two] at h, fun _ => ⟨W.heap.size, 0, rfl, by simp, fun i z hz => ?_⟩, fun k x hx => stal_nil (two_at hx)⟩
  have hc : ∀ j v, row2[j]? = some v → (W.alloc (.cells row2 t)).cell? ⟨W.heap.size, j, none⟩ = some v := fun j v hv => by rw [cell_of_row _ _ _ _ _ _ (heap_alloc_new _ _)]; exact hv
  match i with
  | 0 => injection hz with hz; subst hz; exact ⟨hc 0 _ rfl, hc 1 _ rfl, hc 2 _ rfl, hc 3 _ rfl, hc 4 _ rfl, hc 5 _ rfl⟩
  | 1 => injection hz with hz; subst hz; exact ⟨hc 6 _ rfl, hc 7 _ rfl, hc 8 _ rfl, hc 9 _ rfl, hc 10 _ rfl, hc 11 _ rfl⟩
  | i + 2 => simp [two] at hz
/-- A world of the first look. -/
structure Aw (w W : World) : Prop where
  lies : CluL W W.heap.size (two w.heap.size)
  ow : OwnC W (w.heap.size + 1) (two w.heap.size) 25
  below : Below w.heap.size w W
theorem Aw.first (w : World) : Aw w ((w.alloc (.cells row2 36)).alloc (.cells (cluC (two w.heap.size)) 25)) := by
  have h1 := one_S w row2 36
  have h2 := one_S (w.alloc (.cells row2 36)) (cluC (two w.heap.size)) 25
  refine ⟨((lies_two w _).below h2).more h2.size, ?_, h1.trans (h2.mono h1.size)⟩
  have := OwnC.new (w.alloc (.cells row2 36)) (two w.heap.size) 25
  rwa [show (w.alloc (.cells row2 36)).heap.size = w.heap.size + 1 by simp] at this
theorem Aw.next {w W W' : World} (h : Aw w W) (hb : Below W.heap.size W W') : Aw w W' := ⟨(h.lies.below hb).more hb.size, h.ow.kept hb h.ow.lt, h.below.trans (hb.mono h.below.size)⟩

set_option maxRecDepth 100000 in
set_option maxHeartbeats 4000000 in
theorem wake_any (w : World) : Calls Try.prog 6 #[] w (Tells (.bool true) w) := by
  have HA := Lib.hid (Aw.first w)
  have HC := Lib.hid (fun W (h : Aw w W) => cCheck_any (two w.heap.size) W h.lies (fit_two _))
  have HF := Lib.hid (fun W (h : Aw w W) => cFind_any (two w.heap.size) 3 W h.lies (fit_two _) (short_two _))
  have HD := Lib.hid (fun W (h : Aw w W) => cAddrs_any (two w.heap.size) W h.lies (fit_two _))
  have HO := Lib.hid (fun W (h : Aw w W) => h.ow.cells)
  rw [chk_two] at HC
  rw [find_two] at HF
  rw [addr_two] at HD
  unfold Found at HF
  unfold cluC at HA HC HF HD
  unfold two noH at HA HC HF HD HO
  unfold row2 at HA
  unfold Bl.errV at HC
  unfold staC withH s1 at HF
  dsimp only [List.length_nil, List.length_cons] at HA HC HF HD HO
  go_enter Try.func6, Try.ntmps6
  go_wp2_with fail
  refine (HC.out _ HA.out).mono ?_
  rintro e w1 ⟨rfl, hb⟩
  have HA1 := Lib.hid (HA.out.next hb)
  obtain ⟨q0, q1, q2, q3, q4, q5, q6, q7⟩ := HO.out _ HA1.out
  clear hb HA
  go_wp2_with fail
  refine (HF.out _ HA1.out).mono ?_
  rintro e w2 ⟨a, b, c, rfl, -, -, hb⟩
  have HA2 := Lib.hid (HA1.out.next hb)
  obtain ⟨q0, q1, q2, q3, q4, q5, q6, q7⟩ := HO.out _ HA2.out
  have hlt := HA2.out.ow.lt
  have HA3 := Lib.hid (HA2.out.next (one_S w2 #[.int .i64 3, .int .i64 1, .int .i64 0, .slice a.ao 0 a.cap, .slice b.ao 0 b.cap, .slice c.ao 0 c.cap] 36))
  clear hb HA1
  go_wp2_with fail
  refine (HD.out _ HA3.out).mono ?_
  rintro e w3 ⟨rfl, hb⟩
  have HA4 := Lib.hid (HA3.out.next hb)
  clear hb HA3
  go_wp2
  go_ret
  exact ⟨rfl, HA4.out.below⟩

def smallS (s : Sta) : Bool := !(decide ((210 : Int) < s.cd.length) || decide ((40 : Int) < s.sb.length) || decide ((40 : Int) < s.pb.length))
def smA (l : List Sta) (k : Nat) : Bool := (l.drop k).all smallS
theorem smA_end (l : List Sta) : smA l l.length = true := by
  unfold smA
  rw [List.drop_eq_nil_of_le (Nat.le_refl _)]
  rfl
theorem smA_at {l : List Sta} {k : Nat} {x : Sta} (h : l[k]? = some x) : smA l k = (smallS x && smA l (k + 1)) := by
  unfold smA
  obtain ⟨hl, rfl⟩ := List.getElem?_eq_some_iff.1 h
  rw [List.drop_eq_getElem_cons hl, List.all_cons]
def smallC (c : Clu) : Bool := !(decide ((40 : Int) < c.st.length) || decide ((40 : Int) < c.bl.length)) && smA c.st 0
theorem small_of {c : Clu} (h : smallC c = true) : c.st.length ≤ 40 ∧ c.bl.length ≤ 40 ∧ ∀ (k : Nat) (x : Sta), c.st[k]? = some x → x.cd.length ≤ 210 ∧ x.sb.length ≤ 40 ∧ x.pb.length ≤ 40 := by
  unfold smallC at h
  simp only [Bool.and_eq_true, Bool.not_eq_true', Bool.or_eq_false_iff, decide_eq_false_iff_not] at h
  obtain ⟨⟨h1, h2⟩, h3⟩ := h
  refine ⟨by omega, by omega, fun k x hx => ?_⟩
  unfold smA at h3
  rw [List.drop_zero, List.all_eq_true] at h3
  obtain ⟨hl, rfl⟩ := List.getElem?_eq_some_iff.1 hx
  have := h3 _ (List.getElem_mem hl)
  unfold smallS at this
  simp only [Bool.not_eq_true', Bool.or_eq_false_iff, decide_eq_false_iff_not] at this
  omega

set_option maxRecDepth 100000 in
set_option maxHeartbeats 4000000 in
theorem small_any (c : Clu) (w : World) (hL : CluL w w.heap.size c) (hF : FitC c) :
    Calls Try.prog 7 #[.agg (cluC c)] w (Tells (.bool (smallC c)) w) := by
  have hml : (c.st.length : Int) ≤ 9223372036854775807 := by have h1 := hF.2.1.1; have := hF.2.1.2.1; unfold maxLen at this; omega
  have hlc : c.st.length ≤ c.sh.cap := hF.2.1.1
  have hA := Cw.first hL
  obtain ⟨g0, g1, g2, g3, g4, g5, g6, g7⟩ := hA.ow.cells
  have HA := Lib.hid hA
  obtain ⟨r, hr⟩ : ∃ r, r = smallC c := ⟨_, rfl⟩
  rw [← hr]
  unfold smallC at hr
  clear hA hL hF
  unfold cluC at *
  cases b1 : decide ((40 : Int) < c.st.length)
  · cases b2 : decide ((40 : Int) < c.bl.length)
    · have HR := Lib.hid (show r = smA c.st 0 by rw [hr, b1, b2]; rfl)
      clear hr
      go_enter Try.func7, Try.ntmps7
      go_wp2
      clear g0 g1 g2 g3 g4 g5 g6 g7 b1 b2
      go_loopw [18] (fun j W => ∃ k : Nat, k ≤ c.st.length ∧ j = .int .i64 k ∧ Hid (r = smA c.st k) ∧ Hid (Cw w W c w.heap.size)) (fun j _ => c.st.length - (intOf j).toNat)
      case atStart => exact ⟨0, Nat.zero_le _, rfl, HR, HA⟩
      case round =>
        obtain ⟨k, hk, rfl, hR, hA⟩ := hrel
        clear HR HA
        by_cases hlt : k < c.st.length
        · have e1 : decide ((k : Int) < (c.st.length : Int)) = true := by simp; omega
          obtain ⟨y, hy⟩ : ∃ y, c.st[k]? = some y := ⟨_, List.getElem?_eq_getElem (by omega)⟩
          obtain ⟨b1, o1, hbo, hb1, hcs⟩ := hA.out.ca.lies.row (by omega)
          obtain ⟨c0, c1, c2, c3, c4, c5⟩ := hcs k y hy
          have o2 := one_S wr (staC y) 36
          have hA2 := Lib.hid (hA.out.next o2)
          obtain ⟨f0, f1, f2, f3, f4, f5⟩ := (Own6.new wr y 36).cells
          unfold staC at *
          have hgo := smA_at hy
          clear hcs o2 hy hA
          cases t1 : decide ((210 : Int) < y.cd.length)
          · cases t2 : decide ((40 : Int) < y.sb.length)
            · cases t3 : decide ((40 : Int) < y.pb.length)
              · have HR2 := Lib.hid (show r = smA c.st (k + 1) by rw [hR.out, hgo]; unfold smallS; rw [t1, t2, t3]; rfl)
                clear hR hgo
                go_wp2
                exact ⟨⟨k + 1, by omega, by go_num, HR2, hA2⟩, by simp [intOf]; omega⟩
              · obtain rfl : r = false := by rw [hR.out, hgo]; unfold smallS; rw [t1, t2, t3]; rfl
                clear hR hgo
                go_wp2
                go_ret
                exact ⟨rfl, hA2.out.ca.below⟩
            · obtain rfl : r = false := by rw [hR.out, hgo]; unfold smallS; rw [t1, t2]; rfl
              clear hR hgo
              go_wp2
              go_ret
              exact ⟨rfl, hA2.out.ca.below⟩
          · obtain rfl : r = false := by rw [hR.out, hgo]; unfold smallS; rw [t1]; rfl
            clear hR hgo
            go_wp2
            go_ret
            exact ⟨rfl, hA2.out.ca.below⟩
        · obtain rfl : k = c.st.length := by omega
          obtain rfl : r = true := by rw [hR.out, smA_end]
          clear hR
          go_wp2
          go_ret
          exact ⟨rfl, hA.out.ca.below⟩
    · obtain rfl : r = false := by rw [hr, b1, b2]; rfl
      clear hr
      go_enter Try.func7, Try.ntmps7
      go_wp2
      go_ret
      exact ⟨rfl, HA.out.ca.below⟩
  · obtain rfl : r = false := by rw [hr, b1]; rfl
    clear hr
    go_enter Try.func7, Try.ntmps7
    go_wp2
    go_ret
    exact ⟨rfl, HA.out.ca.below⟩
end Go.Proofs.Ytmlopacekoghkaa.Cf
