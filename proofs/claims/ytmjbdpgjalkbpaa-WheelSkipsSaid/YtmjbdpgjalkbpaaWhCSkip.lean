/-
  The code's skip and tick answer as is asked of them. Conditions: none.
-/
import Derived.Test.YtmjbdpgjalkbpaaWhCPass
import Derived.Test.YtmjbdpgjalkbpaaWhCLen
namespace Go.Proofs.Ytmjbdpgjalkbpaa.Whl
open Go.RowKit

def minI (n : Int) : Int := if 20000 < n then 20000 else n
theorem run_minT (n : Int) (ts : Array TypeId) (t : TypeId) (W : World) : (Builtin.min_ ts t #[.int .i64 n, .int .i64 20000]).run Try.prog W = .ok (.int .i64 (minI n)) W := by
  have e : (if 20000 < n then 20000 else n) = minI n := rfl
  rw [run_min_int2, e]
theorem min_pos {n : Int} (h : 0 < n) : minI n = (skipN n : Nat) := by unfold minI skipN; split <;> omega
theorem min_not {n : Int} (h : ¬ 0 < n) : ¬ 0 < minI n := by unfold minI; split <;> omega
theorem skip_not {n : Int} (h : ¬ 0 < n) : skipN n = 0 := by unfold skipN; omega
def lessN (s r : Nat) : Nat := if r < s then r else s
theorem run_minS (s r : Nat) (ts : Array TypeId) (t : TypeId) (W : World) : (Builtin.min_ ts t #[.int .i64 (s : Int), .int .i64 (r : Int)]).run Try.prog W = .ok (.int .i64 ((lessN s r : Nat) : Int)) W := by
  have e : (if (r : Int) < s then (r : Int) else s) = ((lessN s r : Nat) : Int) := by unfold lessN; split <;> split <;> omega
  rw [run_min_int2, e]

theorem only_low {p N : Nat} {w W W' : World} (h : Only p p w W) (hb : Below N W W') (hN : w.heap.size = N) : Only p p w W' :=
  ⟨hb.os.trans h.os, hb.tape.trans h.tape, hb.output.trans h.output, Nat.le_trans h.size hb.size, fun j hj k1 k2 => (hb.block j (by omega)).trans (h.block j hj k1 k2)⟩

/-- What the loop of skip keeps when j ticks are taken. -/
def SkipS (p : Nat) (x : Wh) (w wr : World) (v : Value) (j : Nat) : Prop :=
  OwnL w.heap.size wr v (skipL x j) ∧ RefAt wr p (skipX x j) ∧ Only p p w wr ∧ w.heap.size ≤ wr.heap.size

set_option maxRecDepth 100000 in
set_option maxHeartbeats 4000000 in
theorem cskip_any (p : Nat) (x : Wh) (n : Int) (w : World) (hx : RefAt w p x) (hn : I64 n) :
    Calls Try.prog 15 #[.pointer (some ⟨p, 0, none⟩), .int .i64 n] w (RefComes p (skipL x (skipN n)) (skipX x (skipN n)) w) := by
  obtain ⟨n1, n2⟩ := hn
  have hmn := run_minT n
  have hpN := hx.lt
  have HS := Lib.hid (⟨World.ownsRow_nil w w.heap.size 3 1, hx, Only.refl _ _ _, Nat.le_refl _⟩ : SkipS p x w w (.slice none 0 0) 0)
  by_cases hpos : 0 < n
  · have hq : skipN n ≤ 20000 := by unfold skipN; omega
    rw [min_pos hpos] at hmn
    clear hx n1 n2 hpos
    generalize skipN n = q at *
    go_enter Try.func15, Try.ntmps15
    go_wp2
    go_loopw [5, 6] (fun v i wr => ∃ j r : Nat, j + r = q ∧ i = .int .i64 r ∧ Hid (SkipS p x w wr v j)) (fun _ i _ => (intOf i).toNat)
    case atStart => exact ⟨0, q, by omega, rfl, HS⟩
    case round =>
      clear HS
      obtain ⟨j, r, hjr, rfl, hS⟩ := hrel
      obtain ⟨hv, hr, ho, hs⟩ := hS.out
      by_cases hr0 : 0 < r
      · have hr1 : (0 : Int) < r := by omega
        have HJ := Lib.hid hjr
        have s1 := skip_small x j
        have hOk := hr.1
        have hsl := soonTo_le hOk 16
        have hz := soonTo_zero (skipX x j) 16
        have HF := Lib.hid (fun s => soon_far (skipX x j) s)
        have HN := Lib.hid (fun h => skip_none hOk.len h r)
        have HL := Lib.hid hOk.len
        have HCS := Lib.hid (csoon_any p (skipX x j) wr hr)
        clear hOk
        by_cases hs0 : soonTo (skipX x j) 16 = 0
        · have hd : decide (0 < lenTo (skipX x j) 16) = false := decide_eq_false (by omega)
          rw [hd, hs0] at HCS
          have hE := HN.out hs0
          have hXE : skipX x q = skipX x j := by rw [← HJ.out, skipX_add]; exact hE.1
          have hLE : skipL x q = skipL x j := by rw [← HJ.out, skipL_add, hE.2, List.append_nil]
          have HE := Lib.hid (⟨hXE, hLE⟩ : _ ∧ _)
          clear hE hXE hLE hd hs0 hz HN HF hsl hjr hv hr ho
          go_wp2_with fail
          refine (HCS.out).mono ?_
          rintro e w2 ⟨rfl, hb2⟩
          have HB := Lib.hid hb2
          clear hb2
          go_wp2
          go_ret
          refine ⟨_, rfl, ?_, ?_, ?_⟩
          · rw [HE.out.2]; exact OwnL.below hS.out.1 (HB.out)
          · rw [HE.out.1]; exact hS.out.2.1.below HB.out
          · exact only_low hS.out.2.2.1 (HB.out.mono hS.out.2.2.2) rfl
        · have hd : decide (0 < lenTo (skipX x j) 16) = true := decide_eq_true (by omega)
          rw [hd] at HCS
          have hm1 : 1 ≤ lessN (soonTo (skipX x j) 16) r := by unfold lessN; split <;> omega
          have hm2 : lessN (soonTo (skipX x j) 16) r ≤ r := by unfold lessN; split <;> omega
          have hm3 : lessN (soonTo (skipX x j) 16) r ≤ soonTo (skipX x j) 16 := by unfold lessN; split <;> omega
          have hmr := run_minS (soonTo (skipX x j) 16) r
          have hfar := HF.out _ hm3
          have hmL := skipL_far hm1 hfar
          have hmX := passTo_all (lessN (soonTo (skipX x j) 16) r) HL.out
          have hml := metTo_le (skipX x j) (lessN (soonTo (skipX x j) 16) r) 16
          have HCP := Lib.hid (fun W (h : RefAt W p (skipX x j)) => cpass_any p (skipX x j) (lessN (soonTo (skipX x j) 16) r) W h hm1 (by omega) hfar)
          rw [← hmL, hmX] at HCP
          rw [← hmL] at hml
          clear hmL hmX hfar hm3 hd hs0 hz HN HF
          generalize lessN (soonTo (skipX x j) 16) r = m at *
          generalize soonTo (skipX x j) 16 = so at *
          have hLJ := skipL_add x j m
          have hXJ := skipX_add x j m
          have HLX := Lib.hid (⟨hLJ, hXJ⟩ : _ ∧ _)
          clear hLJ hXJ
          have hr20 : r ≤ 20000 := by omega
          go_wp2_with fail
          refine (HCS.out).mono ?_
          rintro e w2 ⟨rfl, hb2⟩
          have HB := Lib.hid hb2
          have hr2 := hr.below hb2
          have hv2 := hv.below (Below.mono hb2 (by omega))
          have ho2 := only_low ho (hb2.mono hs) rfl
          have hs2 := hb2.size
          clear hb2 hv hr ho hS
          go_wp2_with fail
          refine (HCP.out w2 hr2).mono ?_
          rintro e w5 ⟨v5, rfl, hv5, hr5, ho5⟩
          have hv1 := hv2.only ho5 hpN hpN
          have hoo := ho2.trans ho5
          have hs5 := ho5.size
          have hvl := hv5.list
          clear hv2 hr2 ho2 ho5 hv5 HCP
          go_wp2_with (at_builtin; refine wpList_append_list rfl (.tmp 24) (.tmp 27) rfl w.heap.size _ v5 (skipL x j) (skipL (skipX x j) m) rfl hv1 rfl hvl (by omega) (by omega) ?_)
          intro v6 w6 hv6 hgr
          have hlow := grown_below hv1 hgr (Nat.le_refl _) (by omega)
          have hs6 := hlow.size
          rw [← HLX.out.1] at hv6
          have HNX := Lib.hid (⟨hv6, by rw [HLX.out.2]; exact hr5.of (hlow.block p hpN), only_low hoo hlow rfl, by omega⟩ : SkipS p x w w6 v6 (j + m))
          clear hv1 hoo hvl hv6 hgr hlow hr5
          go_wp2
          go_roundw
          case rel => exact ⟨j + m, r - m, by omega, by go_num, HNX⟩
          case measure => simp [intOf]; omega
      · have hr1 : r = 0 := by omega
        subst hr1
        obtain rfl : j = q := by omega
        clear hs hr ho hv
        go_wp2
        go_ret
        exact ⟨_, rfl, hS.out.1, hS.out.2.1, hS.out.2.2.1⟩
  · have hm := min_not hpos
    rw [skip_not hpos]
    clear hx hpos
    generalize minI n = M at *
    go_enter Try.func15, Try.ntmps15
    go_wp2
    go_loopw [5, 6] (fun v i wr => v = .slice none 0 0 ∧ i = .int .i64 M ∧ wr = w) (fun _ _ _ => 0)
    case atStart => exact ⟨rfl, rfl, rfl⟩
    case round =>
      obtain ⟨rfl, rfl, rfl⟩ := hrel
      go_wp2
      go_ret
      exact ⟨_, rfl, HS.out.1, HS.out.2.1, HS.out.2.2.1⟩

set_option maxHeartbeats 800000 in
theorem ctick_any (p : Nat) (x : Wh) (w : World) (hx : RefAt w p x) :
    Calls Try.prog 13 #[.pointer (some ⟨p, 0, none⟩)] w (RefComes p (comeL x) (tickX x) w) := by
  have h := cskip_any p x 1 w hx ⟨by omega, by omega⟩
  rw [show skipN 1 = 0 + 1 from rfl, skipL_one, skipX_one] at h
  have HH := Lib.hid h
  clear h hx
  go_enter Try.func13, Try.ntmps13
  go_wp2_with fail
  refine (HH.out).mono ?_
  rintro e w1 ⟨v, rfl, h1, h2, h3⟩
  have H1 := Lib.hid (⟨h1, h2, h3⟩ : _ ∧ _ ∧ _)
  clear h1 h2 h3
  go_wp2
  go_ret
  exact ⟨_, rfl, H1.out.1, H1.out.2.1, H1.out.2.2⟩

end Go.Proofs.Ytmjbdpgjalkbpaa.Whl
