/-
  The law GdataWhole: walked. Conditions: as it states.
-/
import Derived.Test.YtbfjimbffpkkhaaGdWhBase
import Derived.OwnWalk
import Derived.Laws.OwnMore
import Derived.StillTailTactics
import Derived.Deep.CutBlock
import Derived.Maps.AppendAt
namespace Go.Proofs.Ytbfjimbffpkkhaa.Pa
open Go.RowKit

abbrev Tn := Nat × Nat × Bs
def XLies (w : World) (N : Nat) (ao : Option Addr) (xs : List Tn) : Prop := 1 ≤ xs.length → ∃ (b o : Nat), ao = some ⟨b, o, none⟩ ∧ b < N ∧ ∀ (i : Nat) (x : Tn), xs[i]? = some x →
  w.cell? ⟨b, o + i * 3, none⟩ = some (.int .u8 x.1) ∧ w.cell? ⟨b, o + i * 3 + 1, none⟩ = some (.int .u16 x.2.1) ∧ w.cell? ⟨b, o + i * 3 + 2, none⟩ = some (.string (S x.2.2))
def FitT (xs : List Tn) : Prop := ∀ (i : Nat) (x : Tn), xs[i]? = some x → x.1 ≤ 255 ∧ x.2.1 ≤ 65535
/-- What holds ahead of each turn. -/
def Tw (w W : World) (N n k inc b sb q mr lb : Nat) (wv : Value) : Prop := ∃ g P s went m last, Dw w W N b g n inc P sb q s mr m lb last wv went ∧ Wi n k inc P s went m last ∧ last.1 ≤ 65535 ∧ last.2 ≤ 4294967295
theorem Tw.below {w W W' : World} {N n k inc b sb q mr lb : Nat} {wv : Value} (h : Tw w W N n k inc b sb q mr lb wv) (hb : Below W.heap.size W W') : Tw w W' N n k inc b sb q mr lb wv := by
  obtain ⟨g, P, s, went, m, last, h1, h2⟩ := h
  exact ⟨g, P, s, went, m, last, h1.below hb, h2⟩
theorem laid_three (w : World) (t : TypeId) (x y z : Value) : (w.alloc (.cells #[x, y, z] t)).cell? ⟨w.heap.size, 0, none⟩ = some x ∧ (w.alloc (.cells #[x, y, z] t)).cell? ⟨w.heap.size, 1, none⟩ = some y ∧ (w.alloc (.cells #[x, y, z] t)).cell? ⟨w.heap.size, 2, none⟩ = some z := by
  refine ⟨?_, ?_, ?_⟩ <;> (rw [World.cell?_alloc_new]; rfl)

/-- What is known of a world, and a version in a block of its own. -/
structure Qn (D : World → Prop) (W : World) (B : Nat) (x y : Value) : Prop where
  d : D W
  c0 : W.cell? ⟨B, 0, none⟩ = some x
  c1 : W.cell? ⟨B, 1, none⟩ = some y
theorem Qn.below {D : World → Prop} {W W' : World} {B : Nat} {x y : Value} (h : Qn D W B x y) (hs : ∀ W W', D W → Below W.heap.size W W' → D W') (hb : Below W.heap.size W W') : Qn D W' B x y :=
  ⟨hs _ _ h.d hb, kept_own hb h.c0, kept_own hb h.c1⟩
theorem Dw.l0 {w W : World} {N b g n inc sb q mr lb : Nat} {P : Pb} {s : Sb} {m : Mp} {last : Nat × Nat} {wv : Value} {went : List Fr} (h : Dw w W N b g n inc P sb q s mr m lb last wv went) : W.cell? ⟨lb, 0, none⟩ = some (.int .u16 last.1) ∧ W.cell? ⟨lb, 1, none⟩ = some (.int .u32 last.2) := by
  constructor <;> (rw [cell_of_row _ _ _ _ _ _ h.lst]; rfl)
attribute [local go_sem ↓] exec_ldF exec_stF exec_bsF
attribute [local go_sem] stF_new0 bsF_of
set_option maxRecDepth 100000 in
set_option maxHeartbeats 8000000 in
theorem whole_walk (z : Nat) (v : Bs) (xs : List Tn) (ao : Option Addr) (cap : Nat) (w : World) (hz : z ≤ 255) (hx : XLies w w.heap.size ao xs) (hfx : FitT xs) (hl : xs.length ≤ maxLen) (hv : v.length ≤ maxLen) :
    Calls Try.prog 5 #[.int .u8 z, .string (S v), .slice ao xs.length cap] w (Tells (.bool true) w) := by
  have hmi : (xs.length : Int) ≤ 9223372036854775807 := by unfold maxLen at hl; omega
  have hmv : (v.length : Int) ≤ 9223372036854775807 := by unfold maxLen at hv; omega
  have hsv := S_size v
  have hWk := Lib.hid (fun W => wake_any W)
  have hzi : (z : Int) ≤ 255 := by omega
  by_cases h80 : 100 < v.length ∨ 120 < xs.length
  · have HT : Hid ((decide ((100 : Int) < (v.length : Int)) = true) ∨ (decide ((100 : Int) < (v.length : Int)) = false ∧ decide ((120 : Int) < (xs.length : Int)) = true)) := Lib.hid (by
      by_cases h1 : 100 < v.length
      · exact .inl (decide_eq_true (by omega))
      · exact .inr ⟨decide_eq_false (by omega), decide_eq_true (by omega)⟩)
    clear hx hl h80 hfx hv
    go_enter Try.func5, Try.ntmps5
    go_wp2_with fail
    refine (hWk.out _).mono ?_
    rintro e w1 ⟨rfl, hb1⟩
    have HB1 := Lib.hid hb1
    clear hb1
    rcases HT.out with d1 | ⟨d1, d2⟩
    all_goals
      go_wp2
      go_ret
      exact ⟨rfl, HB1.out⟩
  have d5 : decide ((100 : Int) < (v.length : Int)) = false := decide_eq_false (by omega)
  have d6 : decide ((120 : Int) < (xs.length : Int)) = false := decide_eq_false (by omega)
  obtain ⟨n, hn0⟩ : ∃ n : Nat, n = 1 + z % 64 := ⟨_, rfl⟩
  have hn : 1 ≤ n ∧ n ≤ 64 := by omega
  have hni : (1 : Int) + (z : Int) % 64 = (n : Int) := by omega
  have hxl : xs.length ≤ 120 := by omega
  clear hn0 h80 hl hv
  have HN := Lib.hid (fun W (i : Nat) => cNewPub n i W hn)
  have HN1 := Lib.hid (fun W => show Calls Try.prog 8 #[.int .i64 n, .int .u16 1] W (fun e w' => e = .returned (.pointer (some ⟨W.heap.size, 0, none⟩)) ∧ PubAt w' W.heap.size (W.heap.size + 1) n 1 pb0 ∧ Below W.heap.size W w' ∧ w'.heap.size = W.heap.size + 1) from cNewPub n 1 W hn)
  have HS := Lib.hid (fun W => cNewSub n v W hn)
  have HX := Lib.hid hx
  have HFx := Lib.hid hfx
  have HW0 := Lib.hid (wi_first (begin := padV n v) hn.1 hn.2)
  have HFr := Lib.hid (fun W b q (h : SubAt W b q n (sb0 (padV n v))) => show Calls Try.prog 17 #[.pointer (some ⟨b, 0, none⟩)] W (Tells (.tuple #[.string (S (padV n v)), .agg #[.int .u16 0, .int .u32 0]]) W) from cFront b q n _ W h)
  clear hx hfx
  go_enter Try.func5, Try.ntmps5
  go_wp2_with fail
  refine (hWk.out _).mono ?_
  rintro e w1 ⟨rfl, hb1⟩
  go_wp2_with fail
  refine (HN1.out _).mono ?_
  rintro e w2 ⟨rfl, hp, hb2, hz2⟩
  replace hz2 := Lib.hid hz2
  go_wp2_with fail
  refine (HS.out _).mono ?_
  rintro e w3 ⟨rfl, hs, hb3, hz3⟩
  replace hz3 := Lib.hid hz3
  go_wp2_with fail
  refine (HFr.out _ _ _ hs).mono ?_
  rintro e w4 ⟨rfl, hb4⟩
  have hmm := @run_makeMap Try.prog
  obtain ⟨w5, hw5⟩ : ∃ w5, w5 = (w4.alloc (.cells #[.int .u16 0, .int .u32 0] 31)).alloc (.map #[] 0) := ⟨_, rfl⟩
  have hz5 : w5.heap.size = w4.heap.size + 1 + 1 := by rw [hw5]; simp
  have hm5 : MapV w5 (w4.heap.size + 1) [] := ⟨#[], 0, by rw [hw5, show w4.heap.size + 1 = (w4.alloc (.cells #[.int .u16 0, .int .u32 0] 31)).heap.size by simp]; exact heap_alloc_new _ _, rfl⟩
  obtain ⟨o, hup, hmo⟩ := run_updV hm5 (0, 0) rfl (padV n v)
  have hup' : (Instr.mapUpdate 66 (.map (some (w4.heap.size + 1))) (.agg #[.int .u16 0, .int .u32 0]) (.string (S (padV n v)))).run Try.prog w5 = .ok () (putM w5 (w4.heap.size + 1) o) := hup
  have hb5 : Below w4.heap.size w4 w5 := by rw [hw5]; exact ((Below.refl _ _).alloc (Nat.le_refl _) _).alloc (by simp) _
  have hl5 : w5.heap[w4.heap.size]? = some (.cells #[.int .u16 ((0 : Nat) : Int), .int .u32 ((0 : Nat) : Int)] 31 (0, 0)) := by
    rw [hw5, Below.heap_alloc _ _ _ (by simp)]
    exact heap_alloc_new _ _
  have HD : Hid (Tw w (putM w5 (w4.heap.size + 1) o) w.heap.size n 0 1 w1.heap.size (w2.heap.size + 1 + 1) w2.heap.size (w4.heap.size + 1) w4.heap.size (.slice none 0 0)) := by
    have k1 := hb1.size
    have k2 := hz2.out
    have k3 := hz3.out
    have k4 := hb4.size
    refine Lib.hid ⟨w5.heap.size + 1, pb0, sb0 (padV n v), [], [((0, 0), padV n v)], (0, 0), Dw.maps ⟨?_, ((hs.below hb4).below hb5), hm5, hl5, FRow.nil _ _, (((hb1.trans (hb2.mono k1)).trans (hb3.mono (by omega))).trans (hb4.mono (by omega))).trans (hb5.mono (by omega)), by omega, by omega, by omega, by omega, fun x hx => by cases hx⟩ hmo, HW0.out, by omega, by omega⟩
    exact (((hp.below hb3).below hb4).below hb5).any rfl (by omega)
  subst hw5
  clear HN1 HS HFr HW0 hp hs hb1 hb2 hb3 hb4 hb5 hz2 hz3 hz5 hm5 hl5 hup hmo
  generalize hN : w.heap.size = N at *
  replace hN := Lib.hid hN
  go_wp2
  generalize w1.heap.size = b0 at *
  generalize w2.heap.size + 1 + 1 = sb at *
  generalize w2.heap.size = q at *
  generalize w4.heap.size + 1 = mr at *
  generalize w4.heap.size = lb at *
  go_loopw [8, 9, 14, 58] (fun i p wv x W => ∃ k inc b : Nat, k ≤ xs.length ∧ i = .int .u16 inc ∧ p = .pointer (some ⟨b, 0, none⟩) ∧ x = .int .i64 k ∧ Hid (Tw w W N n k inc b sb q mr lb wv)) (fun _ _ _ x _ => xs.length - (intOf x).toNat)
  case atStart => exact ⟨0, 1, b0, Nat.zero_le _, rfl, rfl, rfl, HD⟩
  case round =>
    clear HD hup' hmm
    obtain ⟨k, inc, b, hk, rfl, rfl, rfl, hS⟩ := hrel
    by_cases hlt : k < xs.length
    · have d3 : decide (k < xs.length) = true := decide_eq_true hlt
      obtain ⟨⟨a, at_, x⟩, hxk⟩ : ∃ x, xs[k]? = some x := ⟨_, List.getElem?_eq_getElem hlt⟩
      obtain ⟨tb, tO, rfl, htb, hI⟩ := HX.out (by omega)
      obtain ⟨hfa, hft⟩ := HFx.out k _ hxk
      have hfa : a ≤ 255 := hfa
      have hft : at_ ≤ 65535 := hft
      obtain ⟨hc0, hc1, hc2⟩ := hI k _ hxk
      have hbel : Below N w wr := by obtain ⟨_, _, _, _, _, _, h, -⟩ := hS.out; exact h.bel
      have hNr : N ≤ wr.heap.size := by obtain ⟨_, _, _, _, _, _, h, -⟩ := hS.out; exact h.NW
      have hc0 := kept_cell hbel htb hc0
      have hc1 := kept_cell hbel htb hc1
      have hc2 := kept_cell hbel htb hc2
      have htw : tb < wr.heap.size := by omega
      simp only [] at hc0 hc1 hc2
      obtain ⟨c, hc⟩ : ∃ c, a % 5 = c := ⟨_, rfl⟩
      have hc5 : c < 5 := by omega
      have hci : (a : Int) % 5 = (c : Int) := by omega
      have HS0 := Lib.hid (hS.out.below (one_S wr #[.int .u8 a, .int .u16 at_, .string (S x)] 68))
      have HT0 := Lib.hid (laid_three wr 68 (.int .u8 a) (.int .u16 at_) (.string (S x)))
      clear hI hxk hS hbel hNr hc
      have hai : (a : Int) ≤ 255 := by omega
      have hti : (at_ : Int) ≤ 65535 := by omega
      go_upto_block 2 with fail
      refine world_cut (G := fun W => Code.wp _ _ _ _ W) (fun W => Tw w W N n k inc b sb q mr lb u14 ∧ (W.cell? ⟨wr.heap.size, 0, none⟩ = some (.int .u8 a) ∧ W.cell? ⟨wr.heap.size, 1, none⟩ = some (.int .u16 at_) ∧ W.cell? ⟨wr.heap.size, 2, none⟩ = some (.string (S x))) ∧ wr.heap.size < W.heap.size) (by exact ⟨HS0.out, HT0.out, by simp⟩) ?_
      rintro W1 ⟨hT, ⟨k0, k1, k2⟩, hTB⟩
      have HT := Lib.hid hT
      clear HS0 HT0 hc0 hc1 hc2 htw hai hT
      generalize wr.heap.size = TB at *
      go_cut [8, 9, 14] from 64 to 126 (fun s8 s9 s14 wx => ∃ inc' b' : Nat, s8 = .int .u16 inc' ∧ s9 = .pointer (some ⟨b', 0, none⟩) ∧ Hid (Tw w wx N n (k + 1) inc' b' sb q mr lb s14))
      case first =>
        obtain ⟨g, P, s, went, m, last, hD, hW, hlast⟩ := HT.out
        have HD := Lib.hid hD
        have HW := Lib.hid hW
        clear HT hD hW
        have e0 : ((c : Int) == 0) = decide (c = 0) := by rw [Bool.eq_iff_iff]; simp
        by_cases hc0 : c = 0
        rotate_left
        · rw [decide_eq_false hc0] at e0
          have e1 : ((c : Int) == 1) = decide (c = 1) := by rw [Bool.eq_iff_iff]; simp; omega
          by_cases h1 : c = 1
          · rw [decide_eq_true h1] at e1
            --NEXT
            have HC := Lib.hid (cNext b g n inc P W1 HD.out.pub HW.out.wp)
            have HWn := Lib.hid (wi_nx HW.out)
            have hfit := nx_fit HW.out.wp
            have hwl : went.length ≤ 120 := by have := HW.out.wlen; omega
            obtain ⟨A, cw, rfl⟩ := own_form HD.out.row
            clear hc0 h1 k0 k1 k2
            generalize hF : nxF inc P = F at *
            replace hF := Lib.hid hF
            by_cases hs : P.seq = 0
            · have e5 : decide (0 < P.seq) = false := by simp [hs]
              rw [if_neg (by omega)] at HWn
              rw [e5] at HC
              clear e5 hs
              have HSt := Lib.hid (fun (W : World) => stF_new0 W F)
              generalize frA F = X at *
              go_wp2_with fail
              refine HC.out.mono ?_
              rintro e w3 ⟨rfl, g1, hp1, ho1, hg1⟩
              have hst := HSt.out w3
              have HZ : Hid (Tw w (w3.alloc (.cells X 33)) N n (k + 1) inc b sb q mr lb (.slice A went.length cw)) := Lib.hid ⟨g1, _, s, went, m, last, (HD.out.pubs hp1 ho1 hg1).below (one_S _ _ _), HWn.out, hlast⟩
              clear HC hp1 ho1 hg1 HD HSt
              go_wp2
              go_meet
              exact ⟨inc, b, rfl, rfl, HZ⟩
            · have e5 : decide (0 < P.seq) = true := by simp; omega
              rw [if_pos (by omega)] at HWn
              rw [e5] at HC
              clear e5 hs
              obtain ⟨i0, hi, hz0, hz1, hz2⟩ := info_parts infoFr
              have HZ0 := Lib.hid (⟨hi, hz0, hz1, hz2⟩ : _ ∧ _ ∧ _ ∧ _)
              clear hi hz0 hz1 hz2
              go_wp2_with fail
              refine HC.out.mono ?_
              rintro e w3 ⟨rfl, g1, hp1, ho1, hg1⟩
              have hst := stF_new0 w3 F
              have hld := (FrAt.new w3 F 33).ld
              have HD5 := Lib.hid (((HD.out.pubs hp1 ho1 hg1).below (one_S _ (frA F) 33)).below (one_S _ (frA F) 33))
              have HN5 := Lib.hid HD5.out.NW
              have HR5 := Lib.hid HD5.out.row
              clear HC hp1 ho1 hg1 HD
              go_wp2_with (at_builtin; refine wpList_append_own_at _ rfl (.tmp 96) (.tmp 98) 40 rfl N 33 i0 (.agg (frA fr0)) 19 64 Try.underlying40 HZ0.out.1 HZ0.out.2.1 HZ0.out.2.2.1 HZ0.out.2.2.2 rfl (by decide) _ went.length (frs went) rfl HR5.out ⟨w3.heap.size + 1, 0, none⟩ 1 1 (frC F) rfl rfl (frC_new _ _ _ (by simp)) (frA_one19 _) (by unfold maxLen; omega) (by omega) HN5.out ?_)
              intro v1 w6 hown hgrow _ hloc
              have HZ : Hid (Tw w w6 N n (k + 1) inc b sb q mr lb v1) := by
                obtain ⟨g2, hd2⟩ := HD5.out.rows (wv' := v1) (went' := went ++ [F]) (by
                  show w6.ownsRow N _ 19 v1 _ _
                  rw [List.length_append, frs_app, frs_one]
                  exact hown) hgrow (fun x hx => by
                  rcases hloc with e | e
                  · exact .inl (e ▸ hx)
                  · rw [e] at hx
                    injection hx with hx
                    exact .inr (by simp; omega))
                exact Lib.hid ⟨g2, _, s, _, m, last, hd2, HWn.out, hlast⟩
              clear hown hgrow hloc HD5 HR5 HN5 hst hld
              go_wp2
              go_meet
              exact ⟨inc, b, rfl, rfl, HZ⟩
          · rw [decide_eq_false h1] at e1
            have e2 : ((c : Int) == 2) = decide (c = 2) := by rw [Bool.eq_iff_iff]; simp; omega
            by_cases h2 : c = 2
            · rw [decide_eq_true h2] at e2
              --PUT
              obtain ⟨A, cw, rfl⟩ := own_form HD.out.row
              have hwl : went.length ≤ 120 := by have := HW.out.wlen; omega
              clear hc0 h1 h2 k0 k2
              by_cases hw0 : went.length = 0
              · have e5 : decide (0 < went.length) = false := decide_eq_false (by omega)
                have HZ : Hid (Tw w W1 N n (k + 1) inc b sb q mr lb (.slice A went.length cw)) := Lib.hid ⟨g, P, s, went, m, last, HD.out, HW.out.more, hlast⟩
                clear HD hw0
                go_wp2
                go_meet
                exact ⟨inc, b, rfl, rfl, HZ⟩
              · have e5 : decide (0 < went.length) = true := decide_eq_true (by omega)
                obtain ⟨d, hd⟩ : ∃ d, at_ % went.length = d := ⟨_, rfl⟩
                have hdl : d < went.length := by rw [← hd]; exact Nat.mod_lt _ (by omega)
                obtain ⟨F, hF⟩ : ∃ F, went[d]? = some F := ⟨_, List.getElem?_eq_getElem hdl⟩
                have hmem : F ∈ went := List.mem_of_getElem? hF
                obtain ⟨gw, cap', he, -, -⟩ := World.ownsRow.form HD.out.row (by omega)
                injection he with hA _ hc'
                subst hA hc'
                have hfr := (FRow.at HD.out.row hF).ld
                have hfit := (HW.out.wnt F hmem).2
                have hti2 : Int.tmod (at_ : Int) (went.length : Int) = (d : Int) := by
                  rw [← hd]; rfl
                have hti3 : (at_ : Int) % (went.length : Int) = (d : Int) := by rw [← hd]; rfl
                have hne : ¬ (went.length : Int) = 0 := by omega
                have hne2 : ((went.length : Int) == 0) = false := by rw [beq_eq_false_iff_ne]; exact hne
                have HC := Lib.hid (cSPut sb q n s F W1 HD.out.sub HW.out.ws hfit.fit (by have := hfit.len; unfold maxLen; omega))
                have HWp := Lib.hid (wi_put HW.out hmem)
                clear hd hmem hF hw0 hfit
                generalize frA F = X at *
                go_wp2_with fail
                refine HC.out.mono ?_
                rintro e w3 ⟨rfl, hs3, ho3⟩
                have HZ : Hid (Tw w w3 N n (k + 1) inc b sb q mr lb (.slice (some ⟨gw, 0, none⟩) went.length cw)) := Lib.hid ⟨g, P, _, went, m, last, HD.out.subs hs3 ho3, HWp.out, hlast⟩
                clear HC hs3 ho3 HD
                go_wp2
                go_meet
                exact ⟨inc, b, rfl, rfl, HZ⟩
            · rw [decide_eq_false h2] at e2
              have e3 : ((c : Int) == 3) = decide (c = 3) := by rw [Bool.eq_iff_iff]; simp; omega
              by_cases h3 : c = 3
              · rw [decide_eq_true h3] at e3
                --LATCH
                have HL := Lib.hid (cLatch sb q n s W1 HD.out.sub)
                clear hc0 h1 h2 h3 k0 k1 k2
                go_wp2_with fail
                refine HL.out.mono ?_
                rintro e w3 ⟨rfl, hs, ho⟩
                have HZ : Hid (Tw w w3 N n (k + 1) inc b sb q mr lb u14) := Lib.hid ⟨g, P, _, went, m, last, HD.out.subs hs (only_more ho (by simp)), wi_lat HW.out, hlast⟩
                clear HL hs ho HD
                go_wp2
                go_meet
                exact ⟨inc, b, rfl, rfl, HZ⟩
              · rw [decide_eq_false h3] at e3
                have e4 : ((c : Int) == 4) = true := by rw [beq_iff_eq]; omega
                --NEW
                have hik : inc ≤ 121 := by have := HW.out.inck; omega
                have hiw : IntKind.u16.wrap ((inc : Int) + 1) = (inc : Int) + 1 := by rw [IntKind.wrap_u16]; omega
                have hiw2 : (inc : Int) + 1 ≤ 65535 := by omega
                have HP := Lib.hid (show Calls Try.prog 8 #[.int .i64 n, .int .u16 ((inc : Int) + 1)] W1 (fun e w' => e = .returned (.pointer (some ⟨W1.heap.size, 0, none⟩)) ∧ PubAt w' W1.heap.size (W1.heap.size + 1) n (inc + 1) pb0 ∧ Below W1.heap.size W1 w' ∧ w'.heap.size = W1.heap.size + 1) from cNewPub n (inc + 1) W1 hn)
                clear hc0 h1 h2 h3 k0 k1 k2
                go_wp2_with fail
                refine HP.out.mono ?_
                rintro e w3 ⟨rfl, hp, hb, -⟩
                have HZ : Hid (Tw w w3 N n (k + 1) (inc + 1) W1.heap.size sb q mr lb u14) := Lib.hid ⟨_, pb0, s, went, m, last, HD.out.anew hb hp (Nat.le_refl _), wi_new HW.out (by omega), hlast⟩
                clear HP hp hb HD
                go_wp2
                go_meet
                exact ⟨inc + 1, W1.heap.size, rfl, rfl, HZ⟩
        · rw [decide_eq_true hc0] at e0
          --COMMIT
          have hbl := HD.out.pub.lt
          have hmk := mkU8 n (by omega)
          obtain ⟨zz, hcp⟩ := run_copy_pad n x 3 W1
          have hcv := conv_bytes (padV n x) n (pad_len n x) (W1.alloc (.cells (bytesA (padV n x)) 5)) W1.heap.size (heap_alloc_new _ _)
          obtain ⟨hE, hWc⟩ := wi_com (v := padV n x) HW.out (pad_len n x) (by omega)
          have HC := Lib.hid (cCom b g n inc P (padV n x) _ (HD.out.below (one_S W1 (bytesA (padV n x)) 5)).pub HW.out.wp (by rw [pad_len]; omega))
          rw [hE] at HC
          have hP : comP n P (padV n x) = ⟨P.seq + 1, padV n x, P.way⟩ := by unfold comP; rw [if_pos hE]
          have hno := wi_no HW.out
          have HB0 := Lib.hid (heap_alloc_new W1 (.cells (bytesA (padV n x)) 5 (0, 0)))
          have HD1 := Lib.hid (HD.out.below (one_S W1 (bytesA (padV n x)) 5))
          have hwp1 : WP n inc ⟨P.seq + 1, padV n x, P.way⟩ := by have := wp_com (v := padV n x) HW.out.wp; rwa [hP] at this
          rw [hP] at HC hWc
          clear HD hE hP hc0 k0 k1
          have HCp := Lib.hid hcp
          clear hcp
          simp only [show ((0 : Nat) : Int) = 0 from rfl] at HC
          have hLV : lastV inc ⟨P.seq + 1, padV n x, P.way⟩ = .tuple #[.string (S (padV n x)), .agg #[.int .u16 inc, .int .u32 (P.seq + 1 : Nat)], .bool true] := by unfold lastV; simp
          have HLa := Lib.hid (fun W (h : PubAt W b g n inc ⟨P.seq + 1, padV n x, P.way⟩) => show Calls Try.prog 14 #[.pointer (some ⟨b, 0, none⟩)] W (Tells (.tuple #[.string (S (padV n x)), .agg #[.int .u16 inc, .int .u32 (P.seq + 1 : Nat)], .bool true]) W) from hLV ▸ cLast b g n inc _ W h hwp1)
          have HWc := Lib.hid hWc
          have HNo := Lib.hid hno
          clear hLV hwp1 hWc hno
          have hyl := Lib.hid (pad_len n x)
          generalize padV n x = y at *
          generalize P.seq + 1 = q1 at *
          generalize hY : bytesA y = Y at *
          replace hY := Lib.hid hY
          have HCv := Lib.hid (fun (W : World) (h : W.heap[W1.heap.size]? = some (.cells Y 5 (0, 0))) (hy : y.length = n) => conv_bytes y n hy W W1.heap.size (by rw [h, hY.out]))
          go_wp2
          rw [HCp.out]
          go_wp2_with fail
          refine HC.out.mono ?_
          rintro e w3 ⟨rfl, hp3, ho3⟩
          have HD3 := Lib.hid (HD1.out.pubs hp3 ho3 (.inl rfl))
          have HB3 := Lib.hid ((ho3.block W1.heap.size (by simp) (by simp; omega)).trans HB0.out)
          clear HD1 HB0 HC HCp hp3 ho3 hcv hmk
          go_wp2_with fail
          refine (HLa.out _ HD3.out.pub).mono ?_
          rintro e w4 ⟨rfl, hb4⟩
          have HD5 := Lib.hid ((HD3.out.below hb4).below (one_S w4 #[.int .u16 inc, .int .u32 q1] 31))
          have hl4 := laid_ver w4 (.int .u16 inc) (.int .u32 q1)
          have hcv := HCv.out (w4.alloc (.cells #[.int .u16 inc, .int .u32 q1] 31)) (((one_S w4 #[.int .u16 inc, .int .u32 q1] 31).block _ (by have := hb4.size; have := lt_of_heap HB3.out; omega)).trans ((hb4.block _ (lt_of_heap HB3.out)).trans HB3.out)) hyl.out
          obtain ⟨o2, hup, hmo⟩ := run_updV HD5.out.map (inc, q1) HNo.out y
          have hup' : (Instr.mapUpdate 66 (.map (some mr)) (.agg #[.int .u16 inc, .int .u32 q1]) (.string (S y))).run Try.prog (w4.alloc (.cells #[.int .u16 inc, .int .u32 q1] 31)) = .ok () (putM (w4.alloc (.cells #[.int .u16 inc, .int .u32 q1] 31)) mr o2) := hup
          have HZ : Hid (Tw w (putM (w4.alloc (.cells #[.int .u16 inc, .int .u32 q1] 31)) mr o2) N n (k + 1) inc b sb q mr lb u14) := Lib.hid ⟨g, _, s, went, _, last, HD5.out.maps hmo, HWc.out, hlast⟩
          clear HD3 HD5 hb4 hup hmo HLa HB3 HCv
          go_wp2
          go_meet
          exact ⟨inc, b, rfl, rfl, HZ⟩
      case rest =>
        --TAIL
        obtain ⟨inc', b', rfl, rfl, hT⟩ := hcut
        obtain ⟨g, P, s, went, m, last, hD, hW, hlast⟩ := hT.out
        have HFr := Lib.hid (show Calls Try.prog 17 #[.pointer (some ⟨sb, 0, none⟩)] wc (Tells (.tuple #[.string (S s.front), .agg #[.int .u16 s.fi, .int .u32 s.fs]]) wc) from cFront sb q n s wc hD.sub)
        have HD := Lib.hid hD
        have HW := Lib.hid hW
        have hfb := hW.ws.fi
        have hsb := hW.ws.fs
        have hle : decide (numV s.fi s.fs < numV last.1 last.2) = false := decide_eq_false (by have := hW.lastv; omega)
        clear hT hD hW HT k0 k1 k2 hTB
        go_wp2_with fail
        refine HFr.out.mono ?_
        rintro e w3 ⟨rfl, hb3⟩
        have HD4 := Lib.hid ((HD.out.below hb3).below (one_S w3 #[.int .u16 s.fi, .int .u32 s.fs] 31))
        have HL4 := Lib.hid (laid_ver w3 (.int .u16 s.fi) (.int .u32 s.fs))
        have hlk : (Instr.lookup 66 (.map (some mr)) (.agg #[.int .u16 s.fi, .int .u32 s.fs]) true).run Try.prog (w3.alloc (.cells #[.int .u16 s.fi, .int .u32 s.fs] 31)) = .ok (.tuple #[.string (S s.front), .bool true]) (w3.alloc (.cells #[.int .u16 s.fi, .int .u32 s.fs] 31)) := by
          have h := run_lookV HD4.out.map (s.fi, s.fs)
          rw [HW.out.front] at h
          exact h
        have hDs : ∀ W W', Dw w W N b' g n inc' P sb q s mr m lb last u14 went → Below W.heap.size W W' → Dw w W' N b' g n inc' P sb q s mr m lb last u14 went := fun _ _ h hb => h.below hb
        obtain ⟨D, hDD⟩ : ∃ D : World → Prop, D = fun W => Dw w W N b' g n inc' P sb q s mr m lb last u14 went := ⟨_, rfl⟩
        have hQ0 : Qn D (w3.alloc (.cells #[.int .u16 s.fi, .int .u32 s.fs] 31)) w3.heap.size (.int .u16 s.fi) (.int .u32 s.fs) := ⟨by rw [hDD]; exact HD4.out, HL4.out.1, HL4.out.2⟩
        have HDs := Lib.hid (show ∀ W W', D W → Below W.heap.size W W' → D W' by rw [hDD]; exact hDs)
        have HDl := Lib.hid (show ∀ W, D W → W.cell? ⟨lb, 0, none⟩ = some (.int .u16 last.1) ∧ W.cell? ⟨lb, 1, none⟩ = some (.int .u32 last.2) by rw [hDD]; exact fun W h => h.l0)
        have HDD := Lib.hid hDD
        have HQ0 := Lib.hid hQ0
        have HR1 := Lib.hid (fun W => rNumber s.fi s.fs W hfb hsb)
        have HR2 := Lib.hid (fun W => rNumber last.1 last.2 W hlast.1 hlast.2)
        clear HFr HD hb3 hDs hDD hQ0 HD4 HL4
        generalize numV s.fi s.fs = V1 at *
        generalize numV last.1 last.2 = V2 at *
        go_wp2
        refine world_cut (G := fun W => Code.wp _ _ _ _ W) (fun W => Qn D W w3.heap.size (.int .u16 s.fi) (.int .u32 s.fs)) (by exact HQ0.out) ?_
        rintro W5 hQ
        have hl := HDl.out _ hQ.d
        have q0 := hQ.c0
        have q1 := hQ.c1
        have l0 := hl.1
        have l1 := hl.2
        have hP := hQ.below HDs.out (below_drewN W5 _ 1)
        clear hlk HQ0 hl hQ
        generalize w3.heap.size = B at *
        go_region_held3 (fun W' => W'.cell? ⟨B, 0, none⟩ = some (.int .u16 s.fi) ∧ W'.cell? ⟨B, 1, none⟩ = some (.int .u32 s.fs) ∧ W'.cell? ⟨lb, 0, none⟩ = some (.int .u16 last.1) ∧ W'.cell? ⟨lb, 1, none⟩ = some (.int .u32 last.2)) (first | exact ⟨q0, q1, l0, l1⟩ | exact ⟨hP.c0, hP.c1, (HDl.out _ hP.d).1, (HDl.out _ hP.d).2⟩)
          ((go_at_call 24; (first | (with_reducible refine (HR1.out _).mono ?_) | (with_reducible refine (HR2.out _).mono ?_)); rintro e w2 ⟨rfl, hb3⟩; have hP2 := hP.below HDs.out hb3; clear hb3 hP; have hP := hP2; clear hP2))
        have hd6 : Dw w w2 N b' g n inc' P sb q s mr m lb last u14 went := by have := hP.d; rwa [HDD.out] at this
        have q0' := hP.c0
        have q1' := hP.c1
        have l0' := hd6.l0.1
        have l1' := hd6.l0.2
        have f0 := frozen_of _ _ 0 _ _ hd6.lst
        have f1 := frozen_of _ _ 1 _ _ hd6.lst
        have HZ : Hid (Tw w ((w2.setCell ⟨lb, 0, none⟩ (.int .u16 s.fi)).setCell ⟨lb, 1, none⟩ (.int .u32 s.fs)) N n (k + 1) inc' b' sb q mr lb u14) := Lib.hid ⟨g, P, s, went, m, (s.fi, s.fs), hd6.mark s.fi s.fs, wi_end HW.out, hfb, hsb⟩
        clear hP hd6 HDD HDs HDl HR1 HR2 q0 q1 l0 l1
        go_wp2
        go_roundw
        case rel => exact ⟨k + 1, inc', b', by omega, rfl, rfl, by go_num, HZ⟩
        case measure => simp [intOf]; omega
    · obtain rfl : k = xs.length := by omega
      have d3 : decide (xs.length < xs.length) = false := by simp
      obtain ⟨g, P, s, went, m, last, hD, hW, -⟩ := hS.out
      have HB := Lib.hid hD.bel
      have HFa := Lib.hid (cFault sb q n s wr hD.sub)
      rw [hW.fault] at HFa
      clear hS hD hW
      go_wp2_with fail
      refine HFa.out.mono ?_
      rintro e w9 ⟨rfl, rfl⟩
      go_wp2
      go_ret
      exact ⟨rfl, hN.out ▸ HB.out⟩
end Go.Proofs.Ytbfjimbffpkkhaa.Pa
