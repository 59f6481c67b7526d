/-
  The law GdataPublishes: walked. Conditions: as it states.
-/
import Derived.Test.YtbfjimbffpkkhaaGdLaw
import Derived.Test.YtbfjimbffpkkhaaGdRef
namespace Go.Proofs.Ytbfjimbffpkkhaa.Pa
open Go.RowKit

/-- Texts, where they lie. -/
def TLies (w : World) (N : Nat) (ao : Option Addr) (xs : List Bs) : Prop := 1 ≤ xs.length → ∃ (b o : Nat), ao = some ⟨b, o, none⟩ ∧ b < N ∧ ∀ (i : Nat) (x : Bs), xs[i]? = some x → w.cell? ⟨b, o + i, none⟩ = some (.string (S x))
/-- Two publishers, the program's and the reference's. -/
structure Dp (w W : World) (N b q n i : Nat) (P Q : Pb) : Prop where
  pub : ∃ g, PubAt W b g n i P ∧ g ≠ q
  ref : ∃ g, RpAt W q g n i Q ∧ g ≠ b
  wp : WP n i P
  wq : WP n i Q
  bel : Below N w W
  nb : N ≤ b
  nq : N ≤ q
  ne : b ≠ q
section
variable {w W W' : World} {N b q n i : Nat} {P Q P' : Pb}
theorem Dp.below (h : Dp w W N b q n i P Q) (hb : Below W.heap.size W W') : Dp w W' N b q n i P Q := by
  obtain ⟨g, hp, hg⟩ := h.pub
  obtain ⟨g', hr, hg'⟩ := h.ref
  exact ⟨⟨g, hp.below hb, hg⟩, ⟨g', hr.below hb, hg'⟩, h.wp, h.wq, h.bel.trans (hb.mono (by have := hp.lt; have := h.nb; omega)), h.nb, h.nq, h.ne⟩
theorem Dp.drew (h : Dp w W N b q n i P Q) : Dp w W.drew N b q n i P Q := h.below (below_drewN W _ 1)
theorem Dp.one (h : Dp w W N b q n i P Q) {g' : Nat} (hp : PubAt W' b g' n i P') (ho : OnlyL [b] W W') (hw : WP n i P') (hg : g' ≠ q) : Dp w W' N b q n i P' Q := by
  obtain ⟨g2, hr, hg2⟩ := h.ref
  have := hr.lt
  exact ⟨⟨g', hp, hg⟩, ⟨g2, hr.only ho (by have := h.ne; simp; omega) (by simpa using hg2), hg2⟩, hw, h.wq, h.bel.trans (ho.below (by have := h.nb; simp; omega) (by have := h.nq; omega)), h.nb, h.nq, h.ne⟩
theorem Dp.two (h : Dp w W N b q n i P Q) {g' : Nat} (hp : RpAt W' q g' n i P') (ho : OnlyL [q] W W') (hw : WP n i P') (hg : g' ≠ b) : Dp w W' N b q n i P P' := by
  obtain ⟨g2, hr, hg2⟩ := h.pub
  have := hr.lt
  exact ⟨⟨g2, hr.only ho (by have := h.ne; simp; omega) (by simpa using hg2), hg2⟩, ⟨g', hp, hg⟩, h.wp, hw, h.bel.trans (ho.below (by have := h.nq; simp; omega) (by have := h.nb; omega)), h.nb, h.nq, h.ne⟩
theorem Dp.lt (h : Dp w W N b q n i P Q) : b < W.heap.size ∧ q < W.heap.size := by
  obtain ⟨g, hp, -⟩ := h.pub
  obtain ⟨g', hr, -⟩ := h.ref
  exact ⟨hp.lt, hr.lt⟩
end
theorem parts_no {z : Int} (h : z < 1 ∨ 64 < z) : partsN z = 0 := by unfold partsN; rw [if_neg (by omega)]

theorem two_vers (w : World) (x y x' y' : Value) : (((w.alloc (.cells #[x, y] 31)).alloc (.cells #[x', y'] 31)).cell? ⟨w.heap.size, 0, none⟩ = some x ∧ ((w.alloc (.cells #[x, y] 31)).alloc (.cells #[x', y'] 31)).cell? ⟨w.heap.size, 1, none⟩ = some y) ∧
    ((w.alloc (.cells #[x, y] 31)).alloc (.cells #[x', y'] 31)).cell? ⟨w.heap.size + 1, 0, none⟩ = some x' ∧ ((w.alloc (.cells #[x, y] 31)).alloc (.cells #[x', y'] 31)).cell? ⟨w.heap.size + 1, 1, none⟩ = some y' := by
  have h1 := laid_ver w x y
  have h2 := laid_ver (w.alloc (.cells #[x, y] 31)) x' y'
  rw [show (w.alloc (.cells #[x, y] 31)).heap.size = w.heap.size + 1 by simp] at h2
  have hb := one_S (w.alloc (.cells #[x, y] 31)) #[x', y'] 31
  exact ⟨⟨kept_own hb h1.1, kept_own hb h1.2⟩, h2⟩
attribute [local go_sem ↓] exec_ldF exec_stF
attribute [local go_sem] stF_new0
set_option maxRecDepth 100000 in
set_option maxHeartbeats 4000000 in
theorem pubs_walk (z : Int) (i : Nat) (xs : List Bs) (ao : Option Addr) (cap : Nat) (w : World) (hz : I64 z) (hi : i ≤ 65535) (hx : TLies w w.heap.size ao xs) (hl : xs.length ≤ maxLen) :
    Calls Try.prog 3 #[.int .i64 z, .int .u16 i, .slice ao xs.length cap] w (Tells (.bool true) w) := by
  have hmi : (xs.length : Int) ≤ 9223372036854775807 := by unfold maxLen at hl; omega
  have hWk := Lib.hid (fun W => wake_any W)
  by_cases h80 : 80 < xs.length
  · have e1 : decide ((80 : Int) < (xs.length : Int)) = true := decide_eq_true (by omega)
    clear hx hl h80
    go_enter Try.func3, Try.ntmps3
    go_wp2_with fail
    refine (hWk.out _).mono ?_
    rintro e w1 ⟨rfl, hb1⟩
    have HB1 := Lib.hid hb1
    clear hb1
    go_wp2
    go_ret
    exact ⟨rfl, HB1.out⟩
  have e1 : decide ((80 : Int) < (xs.length : Int)) = false := decide_eq_false (by omega)
  by_cases hbad : z < 1 ∨ 64 < z
  · have HN := Lib.hid (fun W => cNewPub_no z i W (parts_no hbad))
    have HNx := Lib.hid (fun W => cNext_nil W)
    have HC := Lib.hid (fun W => cCom_nil ⟨#[]⟩ W)
    have HL := Lib.hid (fun W => cLeft_nil W)
    have HT : Hid ((decide (z < 1) = true) ∨ (decide (z < 1) = false ∧ decide (64 < z) = true)) := Lib.hid (by
      by_cases h1 : z < 1
      · exact .inl (decide_eq_true h1)
      · exact .inr ⟨decide_eq_false h1, decide_eq_true (hbad.resolve_left h1)⟩)
    clear hx hl hbad
    go_enter Try.func3, Try.ntmps3
    go_wp2_with fail
    refine (hWk.out _).mono ?_
    rintro e w1 ⟨rfl, hb1⟩
    have HB1 := Lib.hid hb1
    clear hb1
    go_wp2_with fail
    refine (HN.out _).mono ?_
    rintro e w2 ⟨rfl, rfl⟩
    rcases HT.out with d1 | ⟨d1, d2⟩
    all_goals
      go_wp2_with fail
      refine (HNx.out _).mono ?_
      rintro e w3 ⟨rfl, hb3⟩
      have HB3 := Lib.hid ((HB1.out.trans (hb3.mono HB1.out.size)).alloc (by have := hb3.size; have := HB1.out.size; omega) (.cells (frA fr0) 33))
      clear hb3
      go_wp2_with fail
      refine (HC.out _).mono ?_
      rintro e w4 ⟨rfl, rfl⟩
      go_wp2_with fail
      refine (HL.out _).mono ?_
      rintro e w4 ⟨rfl, rfl⟩
      go_wp2
      go_ret
      exact ⟨rfl, HB3.out⟩
  have d1 : decide (z < 1) = false := decide_eq_false (by omega)
  have d2 : decide (64 < z) = false := decide_eq_false (by omega)
  obtain ⟨n, hzn⟩ : ∃ n : Nat, z = n := ⟨z.toNat, by omega⟩
  subst hzn
  have hn : 1 ≤ n ∧ n ≤ 64 := by omega
  clear hbad hz
  have HN := Lib.hid (fun W => cNewPub n i W hn)
  have HX := Lib.hid hx
  have HW0 := Lib.hid (wp_0 hn.1 hn.2 hi)
  clear hx hl
  go_enter Try.func3, Try.ntmps3
  go_wp2_with fail
  refine (hWk.out _).mono ?_
  rintro e w1 ⟨rfl, hb1⟩
  go_wp2_with fail
  refine (HN.out _).mono ?_
  rintro e w2 ⟨rfl, hp, hb2, hz2⟩
  have HA : Hid (Dp w (w2.alloc (.cells #[.int .i64 n, .int .u16 i, .int .u32 0, .string ⟨#[]⟩, .slice none 0 0] 42)) w.heap.size w1.heap.size w2.heap.size n i pb0 pb0) := by
    have h1 := hb1.size
    refine Lib.hid ⟨⟨w2.heap.size + 1, ?_, by omega⟩, ⟨w2.heap.size + 1, ⟨_, heap_alloc_new _ _, Way.nil _ _, by omega⟩, by omega⟩, HW0.out, HW0.out, (hb1.trans (hb2.mono h1)).alloc (by omega) _, h1, by omega, by omega⟩
    obtain ⟨v, k⟩ := hp
    have hv : Way w2 (w2.heap.size + 1) v [] := by
      obtain ⟨a, c, e1, e2, -⟩ := k.way
      exact ⟨a, c, e1, e2, fun h => absurd rfl h⟩
    exact PubAt.below ⟨v, k.head, hv, by omega⟩ (one_S _ _ _)
  clear HN HW0 hp hb1 hb2 hz2
  generalize hN : w.heap.size = N at *
  generalize w1.heap.size = b at *
  replace hN := Lib.hid hN
  have HA2 : Hid (∃ P, Dp w (w2.alloc (.cells #[.int .i64 n, .int .u16 i, .int .u32 0, .string ⟨#[]⟩, .slice none 0 0] 42)) N b w2.heap.size n i P P) := Lib.hid ⟨_, HA.out⟩
  clear HA
  go_wp2
  generalize w2.heap.size = q at *
  go_loopw [62] (fun t W => ∃ k : Nat, k ≤ xs.length ∧ t = .int .i64 k ∧ Hid (∃ P, Dp w W N b q n i P P)) (fun t _ => xs.length - (intOf t).toNat)
  case atStart => exact ⟨0, Nat.zero_le _, rfl, HA2⟩
  case round =>
    clear HA2
    obtain ⟨k, hk, rfl, hS⟩ := hrel
    obtain ⟨P, hS⟩ := hS.out
    have HS := Lib.hid hS
    by_cases hlt : k < xs.length
    · have d3 : decide (k < xs.length) = true := decide_eq_true hlt
      obtain ⟨x, hxk⟩ : ∃ x, xs[k]? = some x := ⟨_, List.getElem?_eq_getElem hlt⟩
      obtain ⟨sb, so, rfl, hsb, hI⟩ := HX.out (by omega)
      have hcell := kept_cell hS.bel hsb (hI k x hxk)
      have hsx := S_size x
      clear hS hI hxk
      by_cases h100 : 100 < x.length
      · have d4 : decide ((100 : Int) < (x.length : Int)) = true := decide_eq_true (by omega)
        go_wp2
        go_ret
        exact ⟨rfl, hN.out ▸ HS.out.bel⟩
      · have d4 : decide ((100 : Int) < (x.length : Int)) = false := decide_eq_false (by omega)
        obtain ⟨D5, e5⟩ : ∃ D, (!(S x).toList.isEmpty) = D := ⟨_, rfl⟩
        have H5 : Hid (D5 = !x.isEmpty) := Lib.hid (by rw [← e5, toL])
        go_upto_if 70 with fail
        clear e5
        go_cut [] (fun wx => Hid (∃ P', Dp w wx N b q n i P' P'))
        case first =>
          cases D5
          · have hx0 : x = [] := by have := H5.out; simpa using this
            have hsz := HS.out.lt
            obtain ⟨g, hp, hg⟩ := HS.out.pub
            have HN1 := Lib.hid (cNext b g n i P wr hp HS.out.wp)
            have HF := Lib.hid (fun (W : World) => neqF (nxF i P) W)
            have HLd := Lib.hid (fun W R (h : FrAt W R 0 (nxF i P)) => h.ld)
            have HSt := Lib.hid (fun (W : World) => stF_new0 W (nxF i P))
            have HRn := Lib.hid (fun W g (h : RpAt W q g n i P) => rNext q g n i P W h HS.out.wp)
            have HNw := Lib.hid (wp_nx HS.out.wp)
            have HFn := Lib.hid (fun W => FrAt.new W (nxF i P) 33)
            clear hp hx0 hcell hsx
            generalize nxF i P = F at *
            generalize frA F = X at *
            generalize decide (0 < P.seq) = D at *
            go_wp2_with fail
            refine HN1.out.mono ?_
            rintro e w3 ⟨rfl, g1, hp1, ho1, hg1⟩
            have hS3 := HS.out.one hp1 ho1 HNw.out (by rcases hg1 with e | e <;> omega)
            have HS4 := Lib.hid (hS3.below (one_S w3 X 33))
            have hst := HSt.out w3
            have hsz3 : b < w3.heap.size ∧ q < w3.heap.size := hS3.lt
            have hF4 := HFn.out w3
            clear HN1 hp1 ho1 hg1 HS hS3 hg
            obtain ⟨g2, hr2, hg2⟩ := HS4.out.ref
            go_wp2_with fail
            refine (HRn.out _ _ hr2).mono ?_
            rintro e w5 ⟨rfl, g3, hr3, ho3, hg3⟩
            have hS5 := HS4.out.two hr3 ho3 HNw.out (by have : b < (w3.alloc (.cells X 33)).heap.size := by { simp; omega }
                                                        rcases hg3 with e | e <;> omega)
            have hF5 := hF4.only ho3 (by simp; omega)
            have hst5 := HSt.out w5
            have hF6 := hF5.below (one_S w5 X 33)
            have hF7 := HFn.out w5
            have HS7 : Hid (∃ P', Dp w (w5.alloc (.cells X 33)) N b q n i P' P') := Lib.hid ⟨_, hS5.below (one_S w5 X 33)⟩
            have hl6 := HLd.out _ _ hF6
            have hl7 := HLd.out _ _ hF7
            have hnq := HF.out
            have hne : w3.heap.size < w5.heap.size := hF5.lt
            clear HS4 hr2 hg2 hr3 ho3 hg3 hS5 hF4 hF5 hF6 hF7 HRn HNw HFn HLd HSt HF hst
            go_wp2
            go_meet
            exact HS7
          · obtain ⟨g, hp, hg⟩ := HS.out.pub
            have HC := Lib.hid (cCom b g n i P x wr hp HS.out.wp (by omega))
            have HD := Lib.hid (fun W g (h : RpAt W q g n i P) => rCom q g n i P x W h HS.out.wp)
            have HW' := Lib.hid (wp_com (v := x) HS.out.wp)
            clear hp hcell hsx h100 d4
            generalize comE n P x = E at *
            go_wp2_with fail
            refine HC.out.mono ?_
            rintro e w3 ⟨rfl, hp1, ho1⟩
            have HS3 := Lib.hid (HS.out.one hp1 ho1 HW'.out hg)
            clear HS HC hp1 ho1
            obtain ⟨g2, hr2, hg2⟩ := HS3.out.ref
            go_wp2_with fail
            refine (HD.out _ _ hr2).mono ?_
            rintro e w4 ⟨rfl, hr4, ho4⟩
            have HS4 : Hid (∃ P', Dp w w4 N b q n i P' P') := Lib.hid ⟨_, HS3.out.two hr4 ho4 HW'.out hg2⟩
            clear HS3 HD hr2 hr4 ho4 HW' hg2
            go_wp2
            go_meet
            exact HS4
        case rest =>
          clear hcell hsx
          obtain ⟨P', hS⟩ := hcut.out
          obtain ⟨g, hp, -⟩ := hS.pub
          have HLa := Lib.hid (cLast b g n i P' wc hp hS.wp)
          have HS' := Lib.hid hS
          have HLf := Lib.hid (fun W (h : Dp w W N b q n i P' P') m => show Calls Try.prog 11 #[.pointer (some ⟨b, 0, none⟩)] (W.drewN m) (fun e w' => e = .returned (.int .i64 P'.way.length) ∧ w' = W.drewN m) from by
            obtain ⟨g, hp, -⟩ := h.pub
            exact (cLeft b g n i P' (W.drewN m) (hp.below (below_drewN W _ m))).mono fun _ _ ⟨he, hw⟩ => ⟨he, hw.symm⟩)
          have HQ := Lib.hid (fun W (h : Dp w W N b q n i P' P') => show ∃ (a : Option Addr) (c : Nat), W.cell? ⟨q, 2, none⟩ = some (.int .u32 P'.seq) ∧ W.cell? ⟨q, 3, none⟩ = some (.string (S P'.last)) ∧ W.cell? ⟨q, 4, none⟩ = some (.slice a P'.way.length c) from by
            obtain ⟨g, ⟨v, k⟩, -⟩ := h.ref
            obtain ⟨a, c, rfl, -⟩ := k.way
            exact ⟨a, c, k.c2, k.c3, k.c4⟩)
          have HNo := Lib.hid hS.wp.none
          clear hcut hp hS HS
          by_cases hs : P'.seq = 0
          · have HV := Lib.hid (show lastV i P' = .tuple #[.string ⟨#[]⟩, .agg #[.int .u16 0, .int .u32 0], .bool false] from by
              unfold lastV
              rw [hs, (HNo.out hs).1]; rfl)
            have HSl := Lib.hid (show S P'.last = ⟨#[]⟩ by rw [(HNo.out hs).1]; rfl)
            rw [HV.out] at HLa
            rw [hs, HSl.out] at HQ
            clear HV hs HNo
            go_wp2_with fail
            refine HLa.out.mono ?_
            rintro e w3 ⟨rfl, hb3⟩
            have HS3 := Lib.hid (HS'.out.below hb3)
            have hq3 := HS3.out.lt.2
            obtain ⟨a, c, q2, -, -⟩ := HQ.out _ HS3.out
            have HS5 := Lib.hid ((HS3.out.below (one_S w3 #[.int .u16 0, .int .u32 0] 31)).below (one_S _ #[.int .u16 0, .int .u32 0] 31))
            have HL := Lib.hid (two_vers w3 (.int .u16 0) (.int .u32 0) (.int .u16 0) (.int .u32 0))
            clear HLa hb3 HS'
            go_wp2
            refine world_cut (G := fun W => Code.wp _ _ _ _ W) (fun W => Dp w W N b q n i P' P' ∧ (W.cell? ⟨w3.heap.size, 0, none⟩ = some (.int .u16 0) ∧ W.cell? ⟨w3.heap.size, 1, none⟩ = some (.int .u32 0)) ∧ W.cell? ⟨w3.heap.size + 1, 0, none⟩ = some (.int .u16 0) ∧ W.cell? ⟨w3.heap.size + 1, 1, none⟩ = some (.int .u32 0)) (by exact ⟨HS5.out, HL.out⟩) ?_
            rintro W ⟨hW, ⟨l0, l1⟩, l2, l3⟩
            have HW := Lib.hid hW
            obtain ⟨a, c, q2', q3, q4⟩ := HQ.out W hW
            have HLW := Lib.hid (fun m => HLf.out W hW m)
            clear HS3 HS5 HL hW q2 HQ HLf
            generalize w3.heap.size = B at *
            go_quiet (exact Calls.quiet_of_same (HLW.out _))
            have HZ : Hid (∃ P, Dp w (W.drewN nq) N b q n i P P) := Lib.hid ⟨_, HW.out.below (below_drewN _ _ _)⟩
            go_wp2
            go_roundw
            case rel => exact ⟨k + 1, by omega, by go_num, HZ⟩
            case measure => simp [intOf]; omega
          · have e2 : ((P'.seq : Int) == 0) = false := by rw [beq_eq_false_iff_ne]; omega
            have e3 : decide (0 < P'.seq) = true := by simp; omega
            have HV := Lib.hid (show lastV i P' = .tuple #[.string (S P'.last), .agg #[.int .u16 i, .int .u32 P'.seq], .bool true] from by
              unfold lastV
              rw [if_neg hs, e3])
            rw [HV.out] at HLa
            clear HV hs HNo
            go_wp2_with fail
            refine HLa.out.mono ?_
            rintro e w3 ⟨rfl, hb3⟩
            have HS3 := Lib.hid (HS'.out.below hb3)
            have hq3 := HS3.out.lt.2
            obtain ⟨a, c, q2, -, -⟩ := HQ.out _ HS3.out
            have HS5 := Lib.hid ((HS3.out.below (one_S w3 #[.int .u16 i, .int .u32 P'.seq] 31)).below (one_S _ #[.int .u16 i, .int .u32 P'.seq] 31))
            have HL := Lib.hid (two_vers w3 (.int .u16 i) (.int .u32 P'.seq) (.int .u16 i) (.int .u32 P'.seq))
            clear HLa hb3 HS'
            go_wp2
            refine world_cut (G := fun W => Code.wp _ _ _ _ W) (fun W => Dp w W N b q n i P' P' ∧ (W.cell? ⟨w3.heap.size, 0, none⟩ = some (.int .u16 i) ∧ W.cell? ⟨w3.heap.size, 1, none⟩ = some (.int .u32 P'.seq)) ∧ W.cell? ⟨w3.heap.size + 1, 0, none⟩ = some (.int .u16 i) ∧ W.cell? ⟨w3.heap.size + 1, 1, none⟩ = some (.int .u32 P'.seq)) (by exact ⟨HS5.out, HL.out⟩) ?_
            rintro W ⟨hW, ⟨l0, l1⟩, l2, l3⟩
            have HW := Lib.hid hW
            obtain ⟨a, c, q2', q3, q4⟩ := HQ.out W hW
            have HLW := Lib.hid (fun m => HLf.out W hW m)
            clear HS3 HS5 HL hW q2 HQ HLf
            generalize w3.heap.size = B at *
            go_quiet (exact Calls.quiet_of_same (HLW.out _))
            have HZ : Hid (∃ P, Dp w (W.drewN nq) N b q n i P P) := Lib.hid ⟨_, HW.out.below (below_drewN _ _ _)⟩
            go_wp2
            go_roundw
            case rel => exact ⟨k + 1, by omega, by go_num, HZ⟩
            case measure => simp [intOf]; omega
    · obtain rfl : k = xs.length := by omega
      have d3 : decide (xs.length < xs.length) = false := by simp
      clear hS
      go_wp2
      go_ret
      exact ⟨rfl, hN.out ▸ HS.out.bel⟩
end Go.Proofs.Ytbfjimbffpkkhaa.Pa
