/-
  The law GdataComes: walked. Conditions: as it states.
-/
import Derived.Test.YtbfjimbffpkkhaaGdCmAll
import Derived.Test.YtbfjimbffpkkhaaGdOpen
namespace Go.Proofs.Ytbfjimbffpkkhaa.Pa
open Go.RowKit

/-- What holds ahead of each value. -/
def Lc (w W : World) (N b n k sb q vb vs : Nat) (lv : Bs) : Prop := ∃ (P : Pb) (s : Sb) (K : Nat), Ac w W N b n (P, s) sb q vb vs ∧ Cm n K P s ∧ P.seq = k ∧ K ≤ 30 * k ∧ (1 ≤ k → lv = P.last)
theorem only_more2 {ms ns : List Nat} {W W' : World} (h : OnlyL ms W W') (hm : ∀ j ∈ ms, j ∈ ns) : OnlyL ns W W' := ⟨h.os, h.tape, h.output, h.size, fun k hk hn => h.block k hk (fun hi => hn (hm k hi))⟩
theorem PubAt.anyg {W : World} {b g n inc : Nat} {P : Pb} {g' : Nat} (h : PubAt W b g n inc P) (hw : P.way = []) (hg : g' ≠ b) : PubAt W b g' n inc P := by
  obtain ⟨v, k⟩ := h
  obtain ⟨a, cap, hv, hc, -⟩ := k.way
  exact ⟨v, k.head, ⟨a, cap, hv, hc, fun hn => absurd hw hn⟩, hg⟩

attribute [local go_sem ↓] exec_ldF exec_stF
set_option maxRecDepth 100000 in
set_option maxHeartbeats 8000000 in
theorem comes_walk (z : Nat) (xs : List Bs) (ao : Option Addr) (cap : Nat) (ys : List Nat) (ao2 : Option Addr) (cap2 : Nat) (w : World) (hz : z ≤ 255) (hx : TLies w w.heap.size ao xs) (hl : xs.length ≤ maxLen)
    (hy : BLies w w.heap.size ao2 ys) (hfy : ∀ (i x : Nat), ys[i]? = some x → x ≤ 255) (hl2 : ys.length ≤ maxLen) :
    Calls Try.prog 6 #[.int .u8 z, .slice ao xs.length cap, .slice ao2 ys.length cap2] w (Tells (.bool true) w) := by
  have hmi : (xs.length : Int) ≤ 9223372036854775807 := by unfold maxLen at hl; omega
  have hmi2 : (ys.length : Int) ≤ 9223372036854775807 := by unfold maxLen at hl2; omega
  have hWk := Lib.hid (fun W => wake_any W)
  have hzi : (z : Int) ≤ 255 := by omega
  by_cases h80 : xs.length < 1 ∨ 20 < xs.length ∨ ys.length < xs.length
  · have HT : Hid ((decide ((xs.length : Int) < 1) = true) ∨ (decide ((xs.length : Int) < 1) = false ∧ decide ((20 : Int) < (xs.length : Int)) = true) ∨ (decide ((xs.length : Int) < 1) = false ∧ decide ((20 : Int) < (xs.length : Int)) = false ∧ decide (ys.length < xs.length) = true)) := Lib.hid (by
      by_cases h1 : xs.length < 1
      · exact .inl (decide_eq_true (by omega))
      · by_cases h2 : 20 < xs.length
        · exact .inr (.inl ⟨decide_eq_false (by omega), decide_eq_true (by omega)⟩)
        · exact .inr (.inr ⟨decide_eq_false (by omega), decide_eq_false (by omega), decide_eq_true (by omega)⟩))
    clear hx hl h80 hy hfy hl2
    go_enter Try.func6, Try.ntmps6
    go_wp2_with fail
    refine (hWk.out _).mono ?_
    rintro e w1 ⟨rfl, hb1⟩
    have HB1 := Lib.hid hb1
    clear hb1
    rcases HT.out with d1 | ⟨d1, d2⟩ | ⟨d1, d2, d3⟩
    all_goals
      go_wp2
      go_ret
      exact ⟨rfl, HB1.out⟩
  have d1 : decide ((xs.length : Int) < 1) = false := decide_eq_false (by omega)
  have d2 : decide ((20 : Int) < (xs.length : Int)) = false := decide_eq_false (by omega)
  have d3 : decide (ys.length < xs.length) = false := decide_eq_false (by omega)
  obtain ⟨n, hn0⟩ : ∃ n : Nat, n = 1 + z % 64 := ⟨_, rfl⟩
  have hn : 1 ≤ n ∧ n ≤ 64 := by omega
  have hni : (1 : Int) + (z : Int) % 64 = (n : Int) := by omega
  have hxl : 1 ≤ xs.length ∧ xs.length ≤ 20 ∧ xs.length ≤ ys.length := by omega
  clear hn0 h80 hl hl2
  have HN1 := Lib.hid (fun W => show Calls Try.prog 8 #[.int .i64 n, .int .u16 1] W (fun e w' => e = .returned (.pointer (some ⟨W.heap.size, 0, none⟩)) ∧ PubAt w' W.heap.size (W.heap.size + 1) n 1 pb0 ∧ Below W.heap.size W w' ∧ w'.heap.size = W.heap.size + 1) from cNewPub n 1 W hn)
  have HS := Lib.hid (fun W => show Calls Try.prog 15 #[.int .i64 n, .string ⟨#[]⟩] W (fun e w' => e = .returned (.pointer (some ⟨W.heap.size + 1 + 1, 0, none⟩)) ∧ SubAt w' (W.heap.size + 1 + 1) W.heap.size n (sb0 (padV n [])) ∧ Below W.heap.size W w' ∧ w'.heap.size = W.heap.size + 1 + 1 + 1) from cNewSub n [] W hn)
  have HX := Lib.hid hx
  have HY := Lib.hid hy
  have HFy := Lib.hid hfy
  have HC0 := Lib.hid (cm_first (padV n []) hn.1 hn.2)
  have hmf : ∀ (fn : Go.Fn) (first cap : Array Value) (w : World), (Instr.makeFunc fn first cap).run Try.prog w = .ok (.func fn first cap) w := fun _ _ _ _ => rfl
  clear hx hy hfy
  go_enter Try.func6, Try.ntmps6
  go_wp2_with fail
  refine (hWk.out _).mono ?_
  rintro e w1 ⟨rfl, hb1⟩
  go_wp2_with fail
  refine (HN1.out _).mono ?_
  rintro e w2 ⟨rfl, hp, hb2, hz2⟩
  replace hz2 := Lib.hid hz2
  go_wp2_with fail
  refine (HS.out _).mono ?_
  rintro e w3 ⟨rfl, hs, hb3, hz3⟩
  replace hz3 := Lib.hid hz3
  have HD : Hid (Lc w ((w3.alloc (.cells #[.pointer (some ⟨w1.heap.size, 0, none⟩)] 25)).alloc (.cells #[.pointer (some ⟨w2.heap.size + 1 + 1, 0, none⟩)] 48)) w.heap.size w1.heap.size n 0 (w2.heap.size + 1 + 1) w2.heap.size w3.heap.size (w3.heap.size + 1) []) := by
    have k1 := hb1.size
    have k2 := hz2.out
    have k3 := hz3.out
    have hbA := one_S w3 #[.pointer (some ⟨w1.heap.size, 0, none⟩)] 25
    have hbB := one_S (w3.alloc (.cells #[.pointer (some ⟨w1.heap.size, 0, none⟩)] 25)) #[.pointer (some ⟨w2.heap.size + 1 + 1, 0, none⟩)] 48
    have hzA : (w3.alloc (.cells #[.pointer (some ⟨w1.heap.size, 0, none⟩)] 25)).heap.size = w3.heap.size + 1 := by simp
    refine Lib.hid ⟨pb0, sb0 (padV n []), 0, ⟨w3.heap.size + 2, ?_, (hs.below hbA).below hbB, ?_, ?_, ?_, by omega, by omega, by show w3.heap.size + 2 ≠ _ ∧ w3.heap.size + 2 ≠ _; omega, by omega⟩, HC0.out, rfl, by omega, fun h => absurd h (by omega)⟩
    · exact PubAt.anyg (((hp.below hb3).below hbA).below hbB) rfl (by omega)
    · exact kept_own hbB (by rw [World.cell?_alloc_new]; rfl)
    · rw [← hzA, World.cell?_alloc_new]; rfl
    · exact ((((hb1.trans (hb2.mono k1)).trans (hb3.mono (by omega))).trans (hbA.mono (by omega))).trans (hbB.mono (by omega)))
  clear HN1 HS HC0 hp hs hb1 hb2 hb3 hz2 hz3
  generalize hN : w.heap.size = N at *
  replace hN := Lib.hid hN
  go_wp2
  generalize w1.heap.size = b at *
  generalize w2.heap.size + 1 + 1 = sb at *
  generalize w2.heap.size = q at *
  generalize w3.heap.size + 1 = vs at *
  generalize w3.heap.size = vb at *
  go_loopw [10, 45] (fun sl i W => ∃ (k : Nat) (lv : Bs), k ≤ xs.length ∧ sl = .string (S lv) ∧ i = .int .i64 k ∧ Hid (Lc w W N b n k sb q vb vs lv)) (fun _ i _ => xs.length - (intOf i).toNat)
  case atStart => exact ⟨0, [], Nat.zero_le _, rfl, rfl, HD⟩
  case round =>
    clear HD
    obtain ⟨k, lv, hk, rfl, rfl, hS⟩ := hrel
    by_cases hlt : k < xs.length
    · have d4 : decide (k < xs.length) = true := decide_eq_true hlt
      obtain ⟨x, hxk⟩ : ∃ x, xs[k]? = some x := ⟨_, List.getElem?_eq_getElem hlt⟩
      obtain ⟨y, hyk⟩ : ∃ y, ys[k]? = some y := ⟨_, List.getElem?_eq_getElem (by omega)⟩
      obtain ⟨tb, tO, rfl, htb, hI⟩ := HX.out (by omega)
      obtain ⟨ub, uo, rfl, hub, hJ⟩ := HY.out (by omega)
      obtain ⟨P, s, K, ⟨g, hD⟩, hC, hsq, hK, -⟩ := hS.out
      have hx0 := kept_cell hD.bel htb (hI k x hxk)
      have hyb := HFy.out k y hyk
      have HYc := Lib.hid (fun (W : World) (h : Below N w W) => kept_cell h hub (hJ k y hyk))
      have hmk := mkU8 n (by omega)
      obtain ⟨zz, hcp⟩ := run_copy_pad n x 3 wr
      have hcv := conv_bytes (padV n x) n (pad_len n x) (wr.alloc (.cells (bytesA (padV n x)) 5)) wr.heap.size (heap_alloc_new _ _)
      have HD1 := Lib.hid (hD.below (one_S wr (bytesA (padV n x)) 5))
      obtain ⟨hE, hC1⟩ := cm_com hC (pad_len n x) (by omega)
      obtain ⟨went, m, hwi⟩ := hC.wi
      have HC := Lib.hid (cCom b g n 1 P (padV n x) _ HD1.out.pub hwi.wp (by rw [pad_len]; omega))
      have hP : comP n P (padV n x) = ⟨P.seq + 1, padV n x, P.way⟩ := by unfold comP; rw [if_pos hE]
      rw [hE, hP] at HC
      rw [hP] at hC1
      have HAll := Lib.hid (fun W (h : Ac w W N b n (⟨P.seq + 1, padV n x, P.way⟩, s) sb q vb vs) => all_any w N b n (K + 1) (y % 10) ⟨P.seq + 1, padV n x, P.way⟩ s sb q vb vs W h hC1 (by show 1 ≤ P.seq + 1; omega) (by omega))
      have HCm := Lib.hid (cm_all hC1 (by show 1 ≤ P.seq + 1; omega) (y % 10))
      have hyi : (y : Int) % 10 = ((y % 10 : Nat) : Int) := by omega
      have hyi2 : (y : Int) ≤ 255 := by omega
      have hky : k < ys.length := by omega
      have hvp := HD1.out.cp
      have hbw := hD.pub.lt
      have HCp := Lib.hid hcp
      clear hI hxk hJ hyk hS hD hC hwi hE hP hC1 hcp
      simp only [show ((0 : Nat) : Int) = 0 from rfl] at HC
      generalize padV n x = v at *
      generalize bytesA v = Y at *
      generalize hc : y % 10 = c at *
      replace hc := Lib.hid hc
      go_wp2
      rw [HCp.out]
      go_wp2_with fail
      refine HC.out.mono ?_
      rintro e w4 ⟨rfl, hp4, ho4⟩
      have HD4 := Lib.hid (HD1.out.pubs hp4 ho4 (.inl rfl))
      have hy4 := HYc.out _ HD4.out.bel
      go_wp2_with fail
      refine (HAll.out _ ⟨g, HD4.out⟩).mono ?_
      rintro e w5 ⟨rfl, hA5⟩
      have HZ : Hid (Lc w w5 N b n (k + 1) sb q vb vs v) := by
        obtain ⟨q1, q2, q3⟩ := HCm.out
        have h10 := hc.out
        exact Lib.hid ⟨_, _, _, hA5, q1, by rw [q2, hsq], by omega, fun _ => q3.symm⟩
      clear HD1 HD4 HC HCp HAll HCm hA5 hp4 ho4 hy4 hcv hvp hmk
      go_wp2
      go_roundw
      case rel => exact ⟨k + 1, v, by omega, rfl, by go_num, HZ⟩
      case measure => simp [intOf]; omega
    · obtain rfl : k = xs.length := by omega
      have d4 : decide (xs.length < xs.length) = false := by simp
      obtain ⟨P, s, K, ⟨g, hD⟩, hC, hsq, hK, hlv⟩ := hS.out
      have hlv := hlv hxl.1
      subst hlv
      obtain ⟨went, m, hwi⟩ := hC.wi
      have hs1 : 1 ≤ P.seq := by omega
      have hwl := hwi.wp.short
      have HLe := Lib.hid (cLeft b g n 1 P wr hD.pub)
      have HA1 := Lib.hid (all_any w N b n K P.way.length P s sb q vb vs wr ⟨g, hD⟩ hC hs1 (by omega))
      obtain ⟨hC2, hq2, hl2⟩ := cm_all hC hs1 P.way.length
      have hw2 := all_left (n := n) P.way.length P s hs1 (Nat.le_refl _)
      rw [List.drop_length] at hw2
      have hvp := hD.cp
      generalize allN n P.way.length (P, s) = x2 at *
      obtain ⟨P2, s2⟩ := x2
      simp only [] at hC2 hq2 hl2 hw2
      have hpn := pN_bd hn.1 hn.2
      have HA2 := Lib.hid (fun W (h : Ac w W N b n (P2, s2) sb q vb vs) => all_any w N b n _ (pN n) P2 s2 sb q vb vs W h hC2 (by omega) (by omega))
      obtain ⟨a1, a2, a3, a4⟩ := all_end hC2 (by omega) hw2
      generalize allN n (pN n) (P2, s2) = x3 at *
      obtain ⟨P3, s3⟩ := x3
      simp only [] at a1 a2 a3 a4
      have hpi : Int.tdiv ((n : Int) + 15) 16 = ((pN n : Nat) : Int) := by
        unfold pN
        rw [Int.tdiv_eq_ediv_of_nonneg (by omega)]
        omega
      have hpi2 : ((n : Int) + 15) / 16 = ((pN n : Nat) : Int) := by
        unfold pN
        omega
      have hlat : latS s3 = ⟨s3.gl, P.last, 1, xs.length, [], 0, 0, false, s3.fault⟩ := by
        unfold latS
        rw [if_pos a1, a2, a3, a4, hl2, hq2, hsq]
      have HLt := Lib.hid (fun W g (h : Dc w W N b g n P3 sb q s3 vb vs) => show Calls Try.prog 18 #[.pointer (some ⟨sb, 0, none⟩)] W (fun e w' => e = .returned (.bool true) ∧ SubAt w' sb q n (latS s3) ∧ OnlyL [sb] W w') from a1 ▸ cLatch sb q n s3 W h.sub)
      have HFr := Lib.hid (fun W (h : SubAt W sb q n (latS s3)) => show Calls Try.prog 17 #[.pointer (some ⟨sb, 0, none⟩)] W (Tells (.tuple #[.string (S P.last), .agg #[.int .u16 1, .int .u32 xs.length]]) W) from by
        have h2 := cFront sb q n (latS s3) W h
        unfold frontV at h2
        rw [hlat] at h2
        exact h2)
      have hlw : IntKind.u32.wrap (xs.length : Int) = (xs.length : Int) := by rw [IntKind.wrap_u32]; omega
      have hpl : ((pN n : Nat) : Int) ≤ 4 := by omega
      clear hS hD hC hwi hC2 hw2 hlat a1 a2 a3 a4 hq2 hl2 HX HY HFy
      generalize pN n = pn at *
      generalize latS s3 = s4 at *
      generalize P.last = v at *
      generalize P.way.length = wl at *
      go_wp2_with fail
      refine HLe.out.mono ?_
      rintro e w4 ⟨rfl, rfl⟩
      go_wp2_with fail
      refine HA1.out.mono ?_
      rintro e w5 ⟨rfl, hA5⟩
      have HA5 := Lib.hid hA5
      clear hA5 HA1 HLe hvp
      go_wp2_with fail
      refine (HA2.out _ HA5.out).mono ?_
      rintro e w6 ⟨rfl, g6, hD6⟩
      have HD6 := Lib.hid hD6
      have hvs := hD6.cs
      clear hD6 HA5 HA2
      go_wp2_with fail
      refine (HLt.out _ _ HD6.out).mono ?_
      rintro e w7 ⟨rfl, hs7, ho7⟩
      have HD7 := Lib.hid (HD6.out.subs hs7 (only_more2 ho7 (by simp)))
      have hvs := HD7.out.cs
      clear HD6 ho7
      go_wp2_with fail
      refine (HFr.out _ hs7).mono ?_
      rintro e w8 ⟨rfl, hb8⟩
      have HB9 := Lib.hid ((HD7.out.below hb8).below (one_S w8 #[.int .u16 1, .int .u32 xs.length] 31)).bel
      have hl8 := laid_ver w8 (.int .u16 1) (.int .u32 xs.length)
      clear HD7 hb8 hs7 HFr HLt
      go_wp2
      go_ret
      exact ⟨rfl, hN.out ▸ HB9.out⟩
end Go.Proofs.Ytbfjimbffpkkhaa.Pa
