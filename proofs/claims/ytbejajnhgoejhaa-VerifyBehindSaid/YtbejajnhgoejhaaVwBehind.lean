/-
  The law VerifyBehind, walked: it returns true. Conditions: none.
-/
import Derived.Test.YtbejajnhgoejhaaVwBehErr
import Derived.Test.YtbejajnhgoejhaaIlRu
namespace Go.Proofs.Ytbejajnhgoejhaa.Ve
open Go.RowKit
open Go.Proofs.Ytbejajnhgoejhaa.Il hiding Next
open Go.Proofs.Ytbejajnhgoejhaa.Ic

set_option maxRecDepth 100000 in
set_option maxHeartbeats 8000000 in
/-- An error at the end. -/
theorem behind_end (l m : List In) (r k : Nat) (ao bo : Option Addr) (cap capb : Nat) (w : World) (hI : Lies w w.heap.size ao l) (hF : FitL l) (h100 : l.length ≤ 100) (h90 : m.length ≤ 90)
    (h : allB l = .error (r, k)) (hr : r ≠ 0) (hk : l.length ≤ k) :
    Calls Try.prog 5 #[.slice ao l.length cap, .slice bo m.length capb] w (Tells (.bool true) w) := by
  have HA := Lib.hid (At.first hI)
  have HF := Lib.hid hF
  have HC : Hid (∀ W, At w W ao l → Calls Try.prog 7 #[.slice ao l.length cap] W (Tells (.tuple #[.int .i64 (r : Nat), .int .i64 (k : Nat)]) W)) := fun W q => by
    have := cCheck_any l ao cap W q.lies HF.out (by unfold maxLen; omega)
    rw [chk_err h] at this
    exact this
  have hrb : ((r : Int) != 0) = true := by rw [bne_iff_ne]; omega
  have hki : ¬ (k : Int) < l.length := by omega
  have h1 : ¬ (100 : Int) < l.length := by omega
  have h2 : ¬ (90 : Int) < m.length := by omega
  clear hI hF h hr hk h100 h90
  go_enter Try.func5, Try.ntmps5
  go_wp2_with fail
  refine (wake_any _).mono ?_
  rintro e w1 ⟨rfl, hb1⟩
  have HA1 := Lib.hid (HA.out.next hb1)
  clear hb1 HA
  go_wp2_with fail
  refine (HC.out _ HA1.out).mono ?_
  rintro e w2 ⟨rfl, hb1⟩
  have HA2 := Lib.hid (HA1.out.next hb1)
  clear hb1 HA1
  go_wp2
  go_ret
  exact ⟨rfl, HA2.out.below⟩

set_option maxRecDepth 100000 in
set_option maxHeartbeats 8000000 in
/-- A program that may run: it may run with a RET and more behind it. -/
theorem behind_ok (l m : List In) (s : List Ah) (ao bo : Option Addr) (cap capb : Nat) (w : World) (hI : Lies w w.heap.size ao l) (hJ : Lies w w.heap.size bo m) (hF : FitL l) (hG : FitL m) (h100 : l.length ≤ 100) (h90 : m.length ≤ 90)
    (hz : ao = none → cap = 0) (hzb : bo = none → capb = 0) (h : allB l = .ok s) :
    Calls Try.prog 5 #[.slice ao l.length cap, .slice bo m.length capb] w (Tells (.bool true) w) := by
  have HA := Lib.hid (At.first hI)
  have HB := Lib.hid (At.first hJ)
  have HF := Lib.hid hF
  have HG := Lib.hid hG
  have HL := Lib.hid (And.intro h100 h90)
  have HZ := Lib.hid (And.intro hz hzb)
  have HC : Hid (∀ W, At w W ao l → Calls Try.prog 7 #[.slice ao l.length cap] W (Tells (.tuple #[.int .i64 0, .int .i64 0]) W)) := fun W q => by
    have := cCheck_any l ao cap W q.lies HF.out (by unfold maxLen; omega)
    rw [chk_ok h] at this
    exact this
  have HC2 : Hid (∀ W ad c, Lies W W.heap.size ad (l ++ [retI] ++ m) → (∀ (t : Nat) (x : In), t < m.length → m[t]? = some x → rightI x = true) → Calls Try.prog 7 #[.slice ad (l ++ [retI] ++ m).length c] W (Tells (.tuple #[.int .i64 0, .int .i64 0]) W)) := fun W ad c q q2 => by
    have := cCheck_any (l ++ [retI] ++ m) ad c W q (fit_more HF.out HG.out) (by simp only [List.length_append, List.length_cons, List.length_nil]; unfold maxLen; omega)
    rw [more_chk h (by omega) q2] at this
    exact this
  have h1 : ¬ (100 : Int) < l.length := by omega
  have h2 : ¬ (90 : Int) < m.length := by omega
  clear hI hF hJ hG h h100 h90 hz hzb
  go_enter Try.func5, Try.ntmps5
  go_wp2_with fail
  refine (wake_any _).mono ?_
  rintro e w1 ⟨rfl, hb1⟩
  have HA1 := Lib.hid (HA.out.next hb1)
  have HB1 := Lib.hid (HB.out.next hb1)
  clear hb1 HA HB
  go_wp2_with fail
  refine (HC.out _ HA1.out).mono ?_
  rintro e w2 ⟨rfl, hb1⟩
  have HA2 := Lib.hid (HA1.out.next hb1)
  have HB2 := Lib.hid (HB1.out.next hb1)
  clear hb1 HA1 HB1
  go_wp2
  go_loopw [105] (fun i W => ∃ (j : Nat), (j : Int) ≤ m.length ∧ i = .int .i64 j ∧ Hid ((∀ (t : Nat) (x : In), t < j → m[t]? = some x → rightI x = true) ∧ At w W ao l ∧ At w W bo m)) (fun i _ => m.length - (intOf i).toNat)
  case atStart => exact ⟨0, by omega, rfl, Lib.hid ⟨fun t x ht => by omega, HA2.out, HB2.out⟩⟩
  case round =>
    obtain ⟨j, hj, rfl, hS⟩ := hrel
    clear HA2 HB2
    by_cases hlt : (j : Int) < m.length
    · obtain ⟨y, hy⟩ : ∃ y, m[j]? = some y := ⟨_, List.getElem?_eq_getElem (by omega)⟩
      have HY := Lib.hid hy
      have HRi := Lib.hid (fun W => rright_any y (HG.out j y hy).2.2.2.1 W)
      unfold insV at HRi
      obtain ⟨b, o, rfl, -, hIt⟩ := hS.out.2.2.lies (by omega)
      obtain ⟨y0, y1, y2, y3, y4⟩ := hIt j y hy
      have HA4 : Hid (∀ ob W', Below (wr.alloc ob).heap.size (wr.alloc ob) W' → At w W' ao l ∧ At w W' (some ⟨b, o, none⟩) m) := fun ob W' hb => ⟨(hS.out.2.1.alloc ob).next hb, (hS.out.2.2.alloc ob).next hb⟩
      have HP := Lib.hid hS.out.1
      clear hIt hy hS
      cases hr : rightI y
      · rw [hr] at HRi
        clear hr
        go_wp2_with fail
        refine (HRi.out _).mono ?_
        rintro e w3 ⟨rfl, hb⟩
        have HQ := Lib.hid (HA4.out _ _ hb).1.below
        clear hb y0 y1 y2 y3 y4
        go_wp2
        go_ret
        exact ⟨rfl, HQ.out⟩
      · rw [hr] at HRi
        have Hr := Lib.hid hr
        clear hr
        go_wp2_with fail
        refine (HRi.out _).mono ?_
        rintro e w3 ⟨rfl, hb⟩
        have HQ := Lib.hid (HA4.out _ _ hb)
        clear hb y0 y1 y2 y3 y4
        go_wp2
        refine ⟨⟨j + 1, by omega, by go_num, Lib.hid ⟨fun t x ht hx => ?_, HQ.out⟩⟩, by simp [intOf]; omega⟩
        by_cases e : t = j
        · subst e
          have e2 := HY.out
          rw [hx] at e2
          injection e2 with e2
          rw [e2]
          exact Hr.out
        · exact HP.out t x (by omega) hx
    · obtain rfl : j = m.length := by omega
      have HP := Lib.hid hS.out.1
      have HS := Lib.hid hS.out.2
      clear hS
      go_wp2
      go_loopw [115] (fun i W => ∃ (j : Nat), (j : Int) ≤ l.length ∧ i = .int .i64 j ∧ Hid (At w W ao l ∧ At w W bo m)) (fun i _ => l.length - (intOf i).toNat)
      case atStart => exact ⟨0, by omega, rfl, HS⟩
      case round =>
        obtain ⟨j, hj, rfl, hS⟩ := hrel
        clear HS
        by_cases hlt : (j : Int) < l.length
        · obtain ⟨y, hy⟩ : ∃ y, l[j]? = some y := ⟨_, List.getElem?_eq_getElem (by omega)⟩
          obtain ⟨b, o, rfl, -, hIt⟩ := hS.out.1.lies (by omega)
          obtain ⟨y0, y1, y2, y3, y4⟩ := hIt j y hy
          have HA4 : Hid (∀ ob, At w (wr.alloc ob) (some ⟨b, o, none⟩) l ∧ At w (wr.alloc ob) bo m) := fun ob => ⟨hS.out.1.alloc ob, hS.out.2.alloc ob⟩
          clear hIt hy hS
          by_cases p1 : 25 ≤ y.op
          · by_cases p2 : y.op ≤ 27
            · by_cases p3 : y.pl = l.length
              · have p4 : ((y.pl : Int) == (l.length : Int)) = true := by rw [p3]; simp
                clear p3
                go_wp2
                go_ret
                exact ⟨rfl, (HA4.out _).1.below⟩
              · have p4 : ((y.pl : Int) == (l.length : Int)) = false := by rw [beq_eq_false_iff_ne]; exact p3
                clear p3
                go_wp2
                exact ⟨⟨j + 1, by omega, by go_num, Lib.hid (HA4.out _)⟩, by simp [intOf]; omega⟩
            · go_wp2
              exact ⟨⟨j + 1, by omega, by go_num, Lib.hid (HA4.out _)⟩, by simp [intOf]; omega⟩
          · go_wp2
            exact ⟨⟨j + 1, by omega, by go_num, Lib.hid (HA4.out _)⟩, by simp [intOf]; omega⟩
        · obtain rfl : j = l.length := by omega
          have H0 := Lib.hid (OwnI.empty wr)
          have L0 := Lib.hid (hS.out.1.alloc (.cells #[] 41)).lies
          have HS0 := Lib.hid hS.out.2.lies
          have HW0 := Lib.hid hS.out.2.below
          have E0 := Lib.hid ((Below.refl wr.heap.size wr).alloc (Nat.le_refl _) (.cells #[] 41))
          have hlen0 : ([] : List In).length + l.length ≤ 1000 := by simp; omega
          have hsz0 : wr.heap.size ≤ (wr.alloc (.cells #[] 41)).heap.size := by simp
          clear hS
          go_wp2_with (at_builtin; refine wpList_append_ins rfl (.tmp 135) (.tmp 136) rfl wr.heap.size _ [] l rfl H0.out ao cap rfl L0.out HZ.out.1 hlen0 hsz0 ?_)
          intro v1 q1 k1 b1
          have k1 : OwnI q1 wr.heap.size v1 l := k1
          have K1 := Lib.hid (k1.alloc (.cells #[.int .i64 28, .int .i64 0, .int .i64 0, .int .i64 0, .int .i64 0] 41))
          have L1 := Lib.hid (lies_one q1 retI)
          unfold insC retI at L1
          dsimp only at L1
          have hq1 : wr.heap.size ≤ q1.heap.size := by have := b1.size; simp at this; omega
          have B1 := Lib.hid ((E0.out.trans b1).alloc hq1 (.cells #[.int .i64 28, .int .i64 0, .int .i64 0, .int .i64 0, .int .i64 0] 41))
          have hlen1 : l.length + ([retI] : List In).length ≤ 1000 := by simp; omega
          have hsz1 : wr.heap.size ≤ (q1.alloc (.cells #[.int .i64 28, .int .i64 0, .int .i64 0, .int .i64 0, .int .i64 0] 41)).heap.size := by simp; omega
          clear b1 k1 H0 L0 E0 hlen0 hsz0
          go_wp2_with (at_builtin; refine wpList_append_ins rfl (.tmp 137) (.tmp 139) rfl wr.heap.size v1 l [retI] rfl K1.out (some ⟨q1.heap.size, 0, none⟩) 1 rfl L1.out (fun h => by cases h) hlen1 hsz1 ?_)
          intro v2 q2 k2 b2
          have B2 := Lib.hid (B1.out.trans b2)
          have hsz2 : wr.heap.size ≤ q2.heap.size := B2.out.size
          have L2 := Lib.hid ((HS0.out.below B2.out).more hsz2)
          have K2 := Lib.hid k2
          have hlen2 : (l ++ [retI]).length + m.length ≤ 1000 := by simp; omega
          clear b2 k2 B1 L1 K1 hlen1 hsz1 hq1
          go_wp2_with (at_builtin; refine wpList_append_ins rfl (.tmp 140) (.tmp 141) rfl wr.heap.size v2 (l ++ [retI]) m rfl K2.out bo capb rfl L2.out HZ.out.2 hlen2 hsz2 ?_)
          intro v3 q3 k3 b3
          have B3 := Lib.hid (B2.out.trans b3)
          have k3 : OwnI q3 wr.heap.size v3 (l ++ [retI] ++ m) := by rw [List.append_assoc]; exact k3
          obtain ⟨g, c3, rfl, l3⟩ := OwnI.lies k3 (by simp only [List.length_append, List.length_cons, List.length_nil]; omega)
          have H3 := Lib.hid (HC2.out q3 (some ⟨g, 0, none⟩) c3 l3 HP.out)
          clear HC2 b3 k3 l3 B2 L2 K2 hlen2 hsz2
          generalize (l ++ [retI] ++ m).length = n3 at H3 ⊢
          go_wp2_with fail
          refine H3.out.mono ?_
          rintro e q4 ⟨rfl, hb4⟩
          have B4 := Lib.hid (HW0.out.trans ((B3.out.mono HW0.out.size).trans (hb4.mono (Nat.le_trans HW0.out.size B3.out.size))))
          clear hb4
          go_wp2
          go_ret
          exact ⟨rfl, B4.out⟩

theorem behind_walk (l m : List In) (ao bo : Option Addr) (cap capb : Nat) (w : World) (hI : Lies w w.heap.size ao l) (hF : FitL l) (hml : l.length ≤ maxLen) (hJ : Lies w w.heap.size bo m) (hG : FitL m) (hmm : m.length ≤ maxLen)
    (hc : l.length ≤ cap ∧ cap ≤ maxLen ∧ (ao = none → cap = 0)) (hcb : m.length ≤ capb ∧ capb ≤ maxLen ∧ (bo = none → capb = 0)) :
    Calls Try.prog 5 #[.slice ao l.length cap, .slice bo m.length capb] w (Tells (.bool true) w) := by
  by_cases h1 : (100 : Int) < l.length ∨ (90 : Int) < m.length
  · exact behind_long l m ao bo cap capb w hI hml hmm h1
  · have h100 : l.length ≤ 100 := by omega
    have h90 : m.length ≤ 90 := by omega
    rcases all_cases l with ⟨r, k, h, hr, -, -⟩ | ⟨s, h, -, -, -⟩
    · by_cases hk : k < l.length
      · exact behind_err l m r k ao bo cap capb w hI hF h100 h90 hc.1 hc.2.1 h hr hk
      · exact behind_end l m r k ao bo cap capb w hI hF h100 h90 h hr (by omega)
    · exact behind_ok l m s ao bo cap capb w hI hJ hF hG h100 h90 hc.2.2 hcb.2.2 h
end Go.Proofs.Ytbejajnhgoejhaa.Ve
