/-
  A poll is answered at the next tick: walked. Conditions: the library's table of lowest bits is as the program lays it.
-/
import Derived.Test.YtedlfognpbbhhaaGreatDoorMaFin
import Derived.Test.YtedlfognpbbhhaaGreatDoorMaTk
import Derived.Test.YtedlfognpbbhhaaGreatDoorMaOnce
namespace Go.Proofs.YtedlfognpbbhhaaGreatDoor.Ma
open Go.RowKit
open Go.Proofs.YtedlfognpbbhhaaGreatDoor.Epo (Ep cmpE newB maxE numE numM cmpN orL)
open Go.Proofs.YtedlfognpbbhhaaGreatDoor.Mem (St withB woB hasB passB nextI turnI gapB sv)
open Go.Proofs.YtedlfognpbbhhaaGreatDoor.Frm (Fr world_cut)
attribute [local go_sem ↓] exec_ldF exec_stF exec_bdF exec_ldC exec_stC
attribute [local go_sem] bdF_5 bdF_9 bdF_0 stF_new0 stC_new0

theorem bdF_6 (a b c d x y z h : Int) (W : World) : bdF #[(0, .int .i64 a), (1, .int .u8 b), (3, .int .u16 c), (2, .int .u8 d), (5, .agg #[.int .u16 x, .int .u8 y, .int .u16 z]), (6, .int .u16 h)] W =
    .ok (.value (.agg #[.int .i64 a, .int .u8 b, .int .u8 d, .int .u16 c, .int .u16 0, .int .u16 x, .int .u8 y, .int .u16 z, .int .u16 h, .int .u16 0, .int .u8 0, .int .u16 0, .bool false, .int .u8 0, .int .u16 0, .int .u32 0, .int .u8 0, .int .u8 0, .string ⟨#[]⟩])) W := bdF_of _ _ W (by kernel_rfl)
attribute [local go_sem] bdF_6
/-- What the acts make of it. -/
structure An (n : Int) (M : Mc) (wn : Bool) : Prop where
  iv : Iv n M
  jm : Jm M
  wn : M.wants = wn
  ad : M.ad = 2
  inc : M.inc = 1
  sd : Sd M
theorem An.mono {n m : Int} {M : Mc} {wn : Bool} (h : An n M wn) (hm : n ≤ m) : An m M wn := ⟨h.iv.mono hm, h.jm, h.wn, h.ad, h.inc, h.sd⟩
theorem an_tick {n : Int} {M : Mc} {wn : Bool} (h : An n M wn) (hi lo : Int) : An (n + 2) (tickR M hi lo).m wn :=
  ⟨(st_tick h.iv hi lo).1, jm_tick h.jm hi lo, (sd_tick h.sd (by rw [h.ad]; decide) hi lo).2.trans h.wn, (st_tick h.iv hi lo).2.ad.trans h.ad, (st_tick h.iv hi lo).2.inc.trans h.inc, (sd_tick h.sd (by rw [h.ad]; decide) hi lo).1⟩
theorem an_hear {n : Int} {M : Mc} {wn : Bool} (h : An n M wn) (f : Fr) (hf : f.fit) : An (n + 1) (hearM M f) wn :=
  ⟨(st_hear h.iv f hf h.jm).1, jm_hear h.jm f, (sd_hear h.sd f hf).2.trans h.wn, (st_hear h.iv f hf h.jm).2.ad.trans h.ad, (st_hear h.iv f hf h.jm).2.inc.trans h.inc, (sd_hear h.sd f hf).1⟩
theorem an_want {n : Int} {M : Mc} {wn : Bool} (h : An n M wn) (x : Bool) : An n (wantM M x) x :=
  ⟨(st_wantM h.iv x).1, jm_same h.jm _ rfl, rfl, h.ad, h.inc, ⟨h.sd.fx, h.sd.ha, h.sd.kn⟩⟩
theorem an_first : An (130 * ((0 : Nat) : Int)) (smallM 100 2 1) true :=
  ⟨⟨ok_small 100 2 1 (by decide), by show 1 ≤ 65535; decide, Nat.le_refl _, ⟨zero_fit, by show 0 ≤ 65535; decide⟩⟩, .inr rfl, rfl, rfl, rfl, ⟨.inl ⟨by show (1 : Int) ≠ 0; decide, rfl⟩, by show 0 < 32; decide, fun _ => Nat.zero_le _⟩⟩
/-- The mac, the known epoch, and the poll, each in a block of its own. -/
structure Fo (w W : World) (b h : Nat) (M : Mc) (f p : Fr) (E : Ep) : Prop where
  two : Two w W b M f
  box : W.heap[h]? = some (.cells #[.int .u16 E.c, .int .u8 E.a, .int .u16 E.i] 33 (0, 0))
  fr : FrOwn W (h + 1) p
  lt : b < h
section
variable {w W W' : World} {b h : Nat} {M M' : Mc} {f p q : Fr} {E : Ep}
theorem Fo.turn (x : Fo w W b h M f p E) (hm : Mw W' b M') (ho : OnlyL [b] W W') : Fo w W' b h M' f p E :=
  ⟨x.two.turn hm ho, (ho.block h (lt_of_heap x.box) (by have := x.lt; simp; omega)).trans x.box, x.fr.only ho (by have := x.lt; simp; omega), x.lt⟩
theorem Fo.below (x : Fo w W b h M f p E) (hb : Below W.heap.size W W') : Fo w W' b h M f p E :=
  ⟨x.two.below hb, (hb.block h (lt_of_heap x.box)).trans x.box, x.fr.below hb, x.lt⟩
theorem Fo.put (x : Fo w W b h M f p E) (ho : OnlyL [h + 1] W W') (hg : FrOwn W' (h + 1) q) : Fo w W' b h M f q E := by
  have h1 := x.lt
  have h2 := x.two.lt
  refine ⟨⟨⟨(ho.block b x.two.mw.lt (by simp; omega)).trans x.two.mw.head, tz_only x.two.mw.tz ho (by simp), x.two.mw.ne⟩, x.two.fr.only ho (by simp; omega), x.two.bel.trans (ho.below (N := w.heap.size) (by simp; omega) x.two.bel.size), h2⟩, (ho.block h (lt_of_heap x.box) (by simp)).trans x.box, hg, h1⟩
theorem Fo.cell (x : Fo w W b h M f p E) (k : Nat) {v : Value} (hk : #[Value.int .u16 E.c, Value.int .u8 E.a, Value.int .u16 E.i][k]? = some v) : W.cell? ⟨h, k, none⟩ = some v := by
  rw [cell_of_row _ _ _ _ _ _ x.box]
  exact hk
end
set_option maxRecDepth 100000 in
set_option maxHeartbeats 4000000 in
theorem cAns (w : World) (hT : Mem.Tz w) (f : Fr) (hf : f.fit) (xs : List Ac) (ao : Option Addr) (cap : Nat) (hx : ALies w w.heap.size ao xs) (hfx : FitA xs) :
    Calls Tryz.prog 7 #[.slice ao xs.length cap, .agg (frA f)] w (Tells (.bool true) w) := by
  have HA := Lib.hid (fun W (k : Mem.Tz W) => cAwake W k)
  have HN := Lib.hid (fun W (k : Mem.Tz W) => cNew W (nums_small 100 (by decide)) 2 1 (by decide) true k)
  have HS := Lib.hid (fun W => cSmall W)
  have HB := Lib.hid (one_S w (frA f) 38)
  have HF := Lib.hid (FrOwn.new w f)
  have HT := Lib.hid hT
  clear hT
  go_enter Tryz.func7, Tryz.ntmps7
  go_wp2_with fail
  refine (HA.out _ (HT.out.below HB.out)).mono ?_
  rintro e w1 ⟨rfl, hb1⟩
  have H1 := Lib.hid (⟨HF.out.below hb1, (HT.out.below HB.out).below hb1, HB.out.trans (hb1.mono HB.out.size), tz_lt HT.out⟩ : Bx1 w w1 f)
  clear hb1 HA HF HT HB
  by_cases h30 : 30 < xs.length
  · go_wp2
    go_ret
    exact ⟨rfl, H1.out.bel⟩
  have h30' : ¬ (30 : Int) < (xs.length : Int) := by omega
  go_wp2_with fail
  refine (HS.out _).mono ?_
  rintro e w4 ⟨rfl, hb4⟩
  have H4 := Lib.hid (H1.out.below hb4)
  have h4lt : w.heap.size < w4.heap.size := H4.out.fr.lt
  clear hb4 H1 HS
  go_wp2_with fail
  refine (HN.out _ H4.out.tz).mono ?_
  rintro e w5 ⟨b, rfl, hm5, hb5, hge5⟩
  have H5 := Lib.hid (⟨hm5, H4.out.fr.below hb5, H4.out.bel.trans (hb5.mono H4.out.bel.size), Nat.lt_of_lt_of_le h4lt hge5⟩ : Two w w5 b (smallM 100 2 1) f)
  have HZ := Lib.hid H4.out.z
  clear H4 hm5 hb5 hge5 HN h4lt
  go_wp2
  go_loopw [24, 6] (fun i v wr => ∃ (k : Nat) (M : Mc) (wn : Bool), k ≤ xs.length ∧ i = .int .i64 k ∧ v = .bool wn ∧ Hid (An (130 * (k : Int)) M wn) ∧ Hid (Two w wr b M f)) (fun i _ _ => xs.length - (intOf i).toNat)
  case atStart => exact ⟨0, smallM 100 2 1, true, by omega, rfl, rfl, Lib.hid an_first, H5⟩
  case round =>
    obtain ⟨k, M, wn, hk, rfl, rfl, hA, hS⟩ := hrel
    clear H5
    by_cases hlt : k < xs.length
    · obtain ⟨a, ha⟩ : ∃ a, xs[k]? = some a := ⟨xs[k], List.getElem?_eq_getElem hlt⟩
      obtain ⟨g, off, rfl, hg, hq⟩ := hx (by omega)
      have hra : wr.rangeAt g (off + k * 23) (actC a) := fun j v hv => (World.cell?_of_block (hS.out.bel.block g hg)).trans (hq k a ha j v hv)
      have hld : ldC (.pointer (some ⟨g, off + k * 23, none⟩)) wr = .ok (.value (.agg (actA a))) wr := ldC_of wr g (off + k * 23) (actC a) hra rfl
      have hfa := hfx k a ha
      have hkI : (k : Int) < xs.length := by omega
      have H6 := Lib.hid (⟨hS.out.below (one_S wr (actA a) 40), AcOwn.new wr a⟩ : Two w (wr.alloc (.cells (actA a) 40)) b M f ∧ AcOwn (wr.alloc (.cells (actA a) 40)) wr.heap.size a)
      have c0 : (wr.alloc (.cells (actA a) 40)).cell? ⟨wr.heap.size, 0, none⟩ = some (.int .u8 a.wh) := H6.out.2.at 0 rfl
      have hlt2 : wr.heap.size ≠ b := by have := hS.out.mw.lt; omega
      clear hq hra hS
      rcases (by omega : a.wh % 4 = 0 ∨ a.wh % 4 = 1 ∨ a.wh % 4 = 2 ∨ a.wh % 4 = 3) with h4 | h4 | h4 | h4
      · have h4i : (a.wh : Int) % 4 = 0 := by omega
        have hld2 := H6.out.2.ld
        go_wp2_with fail
        refine (cTicks _ a).mono ?_
        rintro e w7 ⟨rfl, hb7⟩
        have H7 := Lib.hid (⟨H6.out.1.below hb7, H6.out.2.below hb7⟩ : Two w w7 b M f ∧ AcOwn w7 wr.heap.size a)
        have HR := Lib.hid (tkI_range a)
        clear hb7 H6 c0 hld hld2
        generalize wr.heap.size = g0 at *
        go_wp2
        go_loopw [35] (fun j W => ∃ (q : Nat) (M' : Mc), (q : Int) ≤ tkI a ∧ j = .int .i64 q ∧ Hid (An (130 * (k : Int) + 2 * (q : Int)) M' wn) ∧ Hid (Two w W b M' f ∧ AcOwn W g0 a)) (fun j _ => 64 - (intOf j).toNat)
        case atStart => exact ⟨0, M, by have := HR.out; omega, rfl, Lib.hid (by have := hA.out; simpa using this), H7⟩
        case round =>
          obtain ⟨q, M', hq, rfl, hA', hS'⟩ := hrel
          clear H7 hA
          by_cases hlq : (q : Int) < tkI a
          · have c2 := hS'.out.2.at 2 rfl
            have c3 := hS'.out.2.at 3 rfl
            have ewq : IntKind.i64.wrap ((q : Int) + 1) = (q : Int) + 1 := by have := HR.out; rw [IntKind.wrap_i64]; omega
            have HK := Lib.hid (fun W (z : Mw W b M') => cTick z hA'.out.iv.ok (by have := HR.out; omega) a.hi a.lo)
            go_wp2_with fail
            refine (HK.out _ hS'.out.1.mw).mono ?_
            rintro e w8 ⟨rfl, hm8, ho8⟩
            have H8 := Lib.hid (⟨hS'.out.1.turn hm8 ho8, hS'.out.2.only ho8 (by simp; exact hlt2)⟩ : Two w w8 b (tickR M' a.hi a.lo).m f ∧ AcOwn w8 g0 a)
            have HA8 := Lib.hid (an_tick hA'.out a.hi a.lo)
            clear hm8 ho8 HK hS' c2 c3
            go_wp2
            go_roundw
            case rel => exact ⟨q + 1, _, by omega, by go_num, Lib.hid (HA8.out.mono (by omega)), H8⟩
            case measure => have := HR.out; simp [intOf]; omega
          · go_wp2
            go_roundw
            case rel => exact ⟨k + 1, M', wn, by omega, by go_num, rfl, Lib.hid (hA'.out.mono (by have := HR.out; omega)), Lib.hid hS'.out.1⟩
            case measure => simp [intOf]; omega
      · have h4i : (a.wh : Int) % 4 = 1 := by omega
        have c22 : (wr.alloc (.cells (actA a) 40)).cell? ⟨wr.heap.size, 22, none⟩ = some (.string a.f.bytes) := H6.out.2.at 22 rfl
        by_cases h40 : 40 < a.f.bytes.size
        · have h40i : (40 : Int) < (a.f.bytes.size : Int) := by omega
          go_wp2
          go_ret
          exact ⟨rfl, H6.out.1.bel⟩
        · have h40i : ¬ (40 : Int) < (a.f.bytes.size : Int) := by omega
          have hld2 := H6.out.2.fr.ld
          have HK := Lib.hid (fun W (z : Mw W b M) => cHear z hA.out.iv.ok (by omega) a.f hfa.2.2)
          go_wp2_with fail
          refine (HK.out _ H6.out.1.mw).mono ?_
          rintro e w8 ⟨rfl, hm8, ho8⟩
          have H8 := Lib.hid (H6.out.1.turn hm8 ho8)
          have HA8 := Lib.hid (an_hear hA.out a.f hfa.2.2)
          clear hm8 ho8 HK H6 c0 hld hld2 c22
          go_wp2
          go_roundw
          case rel => exact ⟨k + 1, _, wn, by omega, by go_num, rfl, Lib.hid (HA8.out.mono (by omega)), H8⟩
          case measure => simp [intOf]; omega
      · have h4i : (a.wh : Int) % 4 = 2 := by omega
        have c1 : (wr.alloc (.cells (actA a) 40)).cell? ⟨wr.heap.size, 1, none⟩ = some (.int .i64 a.n) := H6.out.2.at 1 rfl
        have HK := Lib.hid (fun W (z : Mw W b M) x => cWant z x)
        go_wp2_with fail
        refine (HK.out _ H6.out.1.mw _).mono ?_
        rintro e w8 ⟨rfl, hm8, ho8⟩
        have H8 := Lib.hid (H6.out.1.turn hm8 ho8)
        have HA8 := Lib.hid (an_want hA.out (bits .and .i64 a.n 1 == 1))
        clear hm8 ho8 HK H6 c0 hld c1
        go_wp2
        go_roundw
        case rel => exact ⟨k + 1, _, _, by omega, by go_num, rfl, Lib.hid (HA8.out.mono (by omega)), H8⟩
        case measure => simp [intOf]; omega
      · have h4i : (a.wh : Int) % 4 = 3 := by omega
        go_wp2
        exact ⟨⟨k + 1, M, wn, by omega, by go_num, rfl, Lib.hid (hA.out.mono (by omega)), Lib.hid H6.out.1⟩, by simp [intOf]; omega⟩
    · obtain rfl : k = xs.length := by omega
      have HFt := Lib.hid ((cFault hS.out.mw).mono (fun e w' h => (⟨h.1, h.2 ▸ Below.refl _ _⟩ : Tells (.bool M.fault) wr e w')))
      by_cases hft : M.fault = true
      · rw [hft] at HFt
        go_wp2_with fail
        refine HFt.out.mono ?_
        rintro e w6 ⟨rfl, hb6⟩
        have H6 := Lib.hid (hS.out.below hb6)
        clear hb6 HFt hS
        go_wp2
        go_ret
        exact ⟨rfl, H6.out.bel⟩
      have hft2 : M.fault = false := by simpa using hft
      rw [hft2] at HFt
      go_wp2_with fail
      refine HFt.out.mono ?_
      rintro e w6 ⟨rfl, hb6⟩
      have H6 := Lib.hid (hS.out.below hb6)
      have HK := Lib.hid (fun W (z : Mw W b M) => cTick z hA.out.iv.ok (by omega) 0 0)
      clear hb6 HFt hS
      go_wp2_with fail
      refine (HK.out _ H6.out.mw).mono ?_
      rintro e w7 ⟨rfl, hm7, ho7⟩
      have H7 := Lib.hid (H6.out.turn hm7 ho7)
      have HA7 := Lib.hid (an_tick hA.out 0 0)
      clear hm7 ho7 H6 hA HK
      generalize (tickR M 0 0).m = N at *
      have HH7 := Lib.hid (show Calls Tryz.prog 13 #[.pointer (some ⟨b, 0, none⟩)] w7 (Tells (.agg #[.int .u16 N.high.c, .int .u8 N.high.a, .int .u16 N.high.i]) w7) from cHigh H7.out.mw)
      go_wp2_with fail
      refine HH7.out.mono ?_
      rintro e w8 ⟨rfl, hb8⟩
      have H8 := Lib.hid (H7.out.below hb8)
      clear hb8 HH7 H7
      have H9 := Lib.hid (H8.out.below (one_S w8 #[.int .u16 N.high.c, .int .u8 N.high.a, .int .u16 N.high.i] 33))
      have x8 : (w8.alloc (.cells #[.int .u16 N.high.c, .int .u8 N.high.a, .int .u16 N.high.i] 33)).cell? ⟨w.heap.size, 8, none⟩ = some (.int .u16 f.hop) := H9.out.fr.at.at 8 rfl
      obtain ⟨p0, hp0⟩ : ∃ p0 : Fr, p0 = ⟨2, 9, 2, 65535, 0, N.high.c, N.high.a, N.high.i, f.hop, 0, 0, 0, false, 0, 0, 0, 0, 0, ⟨#[]⟩⟩ := ⟨_, rfl⟩
      obtain ⟨w9, hst, H10⟩ : ∃ w9, stF (.pointer (some ⟨w8.heap.size + 1, 0, none⟩)) (.agg #[.int .i64 2, .int .u8 9, .int .u8 2, .int .u16 65535, .int .u16 0, .int .u16 N.high.c, .int .u8 N.high.a, .int .u16 N.high.i, .int .u16 f.hop, .int .u16 0, .int .u8 0, .int .u16 0, .bool false, .int .u8 0, .int .u16 0, .int .u32 0, .int .u8 0, .int .u8 0, .string ⟨#[]⟩]) ((w8.alloc (.cells #[.int .u16 N.high.c, .int .u8 N.high.a, .int .u16 N.high.i] 33)).alloc (.cells #[.int .i64 0, .int .u8 0, .int .u8 0, .int .u16 0, .int .u16 0, .int .u16 0, .int .u8 0, .int .u16 0, .int .u16 0, .int .u16 0, .int .u8 0, .int .u16 0, .bool false, .int .u8 0, .int .u16 0, .int .u32 0, .int .u8 0, .int .u8 0, .string ⟨#[]⟩] 38)) = .ok .skip w9 ∧
          Hid (Fo w w9 b w8.heap.size N f p0 N.high) := by
        have e := stF_new0 (w8.alloc (.cells #[.int .u16 N.high.c, .int .u8 N.high.a, .int .u16 N.high.i] 33)) p0
        have e2 : (w8.alloc (.cells #[.int .u16 N.high.c, .int .u8 N.high.a, .int .u16 N.high.i] 33)).heap.size = w8.heap.size + 1 := by simp
        have hn := FrOwn.new (w8.alloc (.cells #[.int .u16 N.high.c, .int .u8 N.high.a, .int .u16 N.high.i] 33)) p0
        rw [e2] at e hn
        have hb := one_S (w8.alloc (.cells #[.int .u16 N.high.c, .int .u8 N.high.a, .int .u16 N.high.i] 33)) (frA p0) 38
        refine ⟨_, by rw [hp0] at e ⊢; exact e, ⟨H9.out.below hb, (hb.block _ (by rw [e2]; omega)).trans (heap_alloc_new _ _), hn, H8.out.mw.lt⟩⟩
      have y1 : w9.cell? ⟨w8.heap.size, 1, none⟩ = some (.int .u8 N.high.a) := H10.out.cell 1 rfl
      have f6 : w9.frozen? ⟨w8.heap.size + 1, 6, none⟩ = false := H10.out.fr.free 6
      have y6 : w9.cell? ⟨w8.heap.size + 1, 6, none⟩ = some (.int .u8 N.high.a) := by rw [H10.out.fr.at.at 6 rfl, hp0]
      have H11 : Hid (Fo w (w9.setCell ⟨w8.heap.size + 1, 6, none⟩ (.int .u8 ((N.high.a : Int) % 32))) b w8.heap.size N f (ansP N f.hop) N.high) :=
        Lib.hid (H10.out.put (OnlyL.set (by simp) 6 _) (H10.out.fr.set 6 _ (by rw [hp0]; rfl)))
      clear H8 H9 H10
      have HF2 := Lib.hid (fun W (z : Mw W b N) => (cFault z).mono (fun e w' h => (⟨h.1, h.2 ▸ Below.refl _ _⟩ : Tells (.bool N.fault) W e w')))
      go_wp2_with fail
      refine (HF2.out _ H11.out.two.mw).mono ?_
      rintro e w12 ⟨rfl, hb12⟩
      have H12 := Lib.hid (H11.out.below hb12)
      clear hb12 H11 HF2 y1 f6 y6 hst x8
      generalize w8.heap.size = h0 at *
      by_cases hft3 : N.fault = true
      · rw [hft3]
        go_wp2
        go_ret
        exact ⟨rfl, H12.out.two.bel⟩
      have hft4 : N.fault = false := by simpa using hft3
      rw [hft4]
      have hld := H12.out.fr.at.ld
      have HE := Lib.hid (fun W (z : Mw W b N) => cHear z HA7.out.iv.ok (by omega) (ansP N f.hop) (ansP_fit N f.hop HA7.out.iv.ok.high (by have := hf.2.2.2.2.2.2.2.1; omega)))
      have HAH := Lib.hid (ans_hear N f.hop HA7.out.sd HA7.out.iv.ok.high HA7.out.ad (HA7.out.sd.fx.elim id (fun z => by rw [hft4] at z; exact absurd z.2 (by decide))))
      have HA0 := Lib.hid (⟨HA7.out.inc, HA7.out.wn⟩ : N.inc = 1 ∧ N.wants = wn)
      have HA12 := Lib.hid (an_hear HA7.out (ansP N f.hop) (ansP_fit N f.hop HA7.out.iv.ok.high (by have := hf.2.2.2.2.2.2.2.1; omega)))
      go_wp2_with fail
      refine (HE.out _ H12.out.two.mw).mono ?_
      rintro e w13 ⟨rfl, hm13, ho13⟩
      have H13 := Lib.hid (H12.out.turn hm13 ho13)
      clear hm13 ho13 H12 hld HE HA7
      have HK13 := Lib.hid (fun W (z : Mw W b (hearM N (ansP N f.hop))) => cTick z HA12.out.iv.ok (by omega) 1 1)
      have HAT := Lib.hid (ans_tick _ HAH.out.1 HAH.out.2.2.2.2.2.2 1 1)
      have HA13 := Lib.hid (an_tick HA12.out 1 1)
      go_wp2_with fail
      refine (HK13.out _ H13.out.two.mw).mono ?_
      rintro e w14 ⟨rfl, hm14, ho14⟩
      have H14 := Lib.hid (H13.out.turn hm14 ho14)
      clear hm14 ho14 H13 HK13 HA12
      obtain ⟨P, hP⟩ : ∃ P, P = ansP N f.hop := ⟨_, rfl⟩
      obtain ⟨R, hR⟩ : ∃ R, R = tickR (hearM N (ansP N f.hop)) 1 1 := ⟨_, rfl⟩
      have hsf : R.f = ⟨3, 2, 9, 1, 65535, P.ec, P.ea, P.ei, P.hop, N.high.c, N.high.a, N.high.i, wn, 0, 0, 0, 0, 0, ⟨#[]⟩⟩ := by
        rw [hR, HAT.out.2.1]
        unfold statF
        rw [HAH.out.2.1, HAH.out.2.2.1, HAH.out.2.2.2.1, HAH.out.2.2.2.2.1, HAH.out.2.2.2.2.2.1, HA0.out.1, HA0.out.2, hP]
        rfl
      have hk1 : R.k = 1 := by rw [hR]; exact HAT.out.1
      have hrp : R.m.polled = false := by rw [hR]; exact HAT.out.2.2.1
      have hrh : R.m.high = N.high := by rw [hR, HAT.out.2.2.2]; exact HAH.out.2.2.1
      rw [← hR] at H14 HA13
      rw [← hP] at H14
      rw [← hR, hk1, hsf]
      have H15 := Lib.hid (⟨H14.out.below (one_S w14 (frA ⟨3, 2, 9, 1, 65535, P.ec, P.ea, P.ei, P.hop, N.high.c, N.high.a, N.high.i, wn, 0, 0, 0, 0, 0, ⟨#[]⟩⟩) 38), FrOwn.new w14 _⟩ : Fo w (w14.alloc (.cells (frA ⟨3, 2, 9, 1, 65535, P.ec, P.ea, P.ei, P.hop, N.high.c, N.high.a, N.high.i, wn, 0, 0, 0, 0, 0, ⟨#[]⟩⟩) 38)) b h0 R.m f P N.high ∧ FrOwn (w14.alloc (.cells (frA ⟨3, 2, 9, 1, 65535, P.ec, P.ea, P.ei, P.hop, N.high.c, N.high.a, N.high.i, wn, 0, 0, 0, 0, 0, ⟨#[]⟩⟩) 38)) w14.heap.size ⟨3, 2, 9, 1, 65535, P.ec, P.ea, P.ei, P.hop, N.high.c, N.high.a, N.high.i, wn, 0, 0, 0, 0, 0, ⟨#[]⟩⟩)
      clear hsf hk1 HAT HAH H14 hR hP
      have HHi : Hid (∀ W, Mw W b R.m → Calls Tryz.prog 13 #[.pointer (some ⟨b, 0, none⟩)] W (Tells (.agg #[.int .u16 N.high.c, .int .u8 N.high.a, .int .u16 N.high.i]) W)) := Lib.hid (by rw [← hrh]; exact fun W z => cHigh z)
      go_wp2_with fail
      generalize w14.heap.size = s0 at *
      generalize w14.alloc (.cells (frA ⟨3, 2, 9, 1, 65535, P.ec, P.ea, P.ei, P.hop, N.high.c, N.high.a, N.high.i, wn, 0, 0, 0, 0, 0, ⟨#[]⟩⟩) 38) = w15 at *
      have HY : Hid (∀ W', Fo w W' b h0 R.m f P N.high ∧ FrOwn W' s0 ⟨3, 2, 9, 1, 65535, P.ec, P.ea, P.ei, P.hop, N.high.c, N.high.a, N.high.i, wn, 0, 0, 0, 0, 0, ⟨#[]⟩⟩ → ldF (.pointer (some ⟨s0, 0, none⟩)) W' = .ok (.value (.agg #[.int .i64 3, .int .u8 2, .int .u8 9, .int .u16 1, .int .u16 65535, .int .u16 P.ec, .int .u8 P.ea, .int .u16 P.ei, .int .u16 P.hop, .int .u16 N.high.c, .int .u8 N.high.a, .int .u16 N.high.i, .bool wn, .int .u8 0, .int .u16 0, .int .u32 0, .int .u8 0, .int .u8 0, .string ⟨#[]⟩])) W' ∧ W'.cell? ⟨h0 + 1, 5, none⟩ = some (.int .u16 P.ec) ∧ W'.cell? ⟨h0 + 1, 6, none⟩ = some (.int .u8 P.ea) ∧ W'.cell? ⟨h0 + 1, 7, none⟩ = some (.int .u16 P.ei) ∧ W'.cell? ⟨h0 + 1, 8, none⟩ = some (.int .u16 P.hop) ∧ W'.cell? ⟨h0, 0, none⟩ = some (.int .u16 N.high.c) ∧ W'.cell? ⟨h0, 1, none⟩ = some (.int .u8 N.high.a) ∧ W'.cell? ⟨h0, 2, none⟩ = some (.int .u16 N.high.i)) :=
        Lib.hid (fun W z => ⟨z.2.at.ld, z.1.fr.at.at 5 rfl, z.1.fr.at.at 6 rfl, z.1.fr.at.at 7 rfl, z.1.fr.at.at 8 rfl, z.1.cell 0 rfl, z.1.cell 1 rfl, z.1.cell 2 rfl⟩)
      have HD := Lib.hid (⟨H15.out.1.below (below_drewN w15 _ 1), H15.out.2.below (below_drewN w15 _ 1)⟩ : Fo w (w15.drewN 1) b h0 R.m f P N.high ∧ FrOwn (w15.drewN 1) s0 ⟨3, 2, 9, 1, 65535, P.ec, P.ea, P.ei, P.hop, N.high.c, N.high.a, N.high.i, wn, 0, 0, 0, 0, 0, ⟨#[]⟩⟩)
      go_region_held3 (fun W' => ldF (.pointer (some ⟨s0, 0, none⟩)) W' = .ok (.value (.agg #[.int .i64 3, .int .u8 2, .int .u8 9, .int .u16 1, .int .u16 65535, .int .u16 P.ec, .int .u8 P.ea, .int .u16 P.ei, .int .u16 P.hop, .int .u16 N.high.c, .int .u8 N.high.a, .int .u16 N.high.i, .bool wn, .int .u8 0, .int .u16 0, .int .u32 0, .int .u8 0, .int .u8 0, .string ⟨#[]⟩])) W' ∧ W'.cell? ⟨h0 + 1, 5, none⟩ = some (.int .u16 P.ec) ∧ W'.cell? ⟨h0 + 1, 6, none⟩ = some (.int .u8 P.ea) ∧ W'.cell? ⟨h0 + 1, 7, none⟩ = some (.int .u16 P.ei) ∧ W'.cell? ⟨h0 + 1, 8, none⟩ = some (.int .u16 P.hop) ∧ W'.cell? ⟨h0, 0, none⟩ = some (.int .u16 N.high.c) ∧ W'.cell? ⟨h0, 1, none⟩ = some (.int .u8 N.high.a) ∧ W'.cell? ⟨h0, 2, none⟩ = some (.int .u16 N.high.i)) (first | exact HY.out _ HD.out | exact HY.out _ H15.out | exact HY.out _ (⟨H15.out.1.below (below_drewN w15 _ 1), H15.out.2.drew⟩) | exact HY.out _ H16.out | exact HY.out _ H17.out) ((first | (go_at_call 13; refine (HHi.out _ HD.out.1.two.mw).mono ?_; rintro e w16 ⟨rfl, hb16⟩; have H16 := Lib.hid (⟨HD.out.1.below hb16, HD.out.2.below hb16⟩ : _ ∧ _)) | (go_at_call 13; refine (HHi.out _ H16.out.1.two.mw).mono ?_; rintro e w17 ⟨rfl, hb17⟩; have H17 := Lib.hid (⟨H16.out.1.below hb17, H16.out.2.below hb17⟩ : _ ∧ _))))
      clear HHi HY HD H15
      have HKd := Lib.hid (kd_tick R.m hrp 0 0)
      have HK17 := Lib.hid (fun W (z : Mw W b R.m) => cTick z HA13.out.iv.ok (by omega) 0 0)
      clear HA13 hrh hrp HA0
      generalize tickR R.m 0 0 = Q at *
      go_wp2_with fail
      refine (HK17.out _ H17.out.1.two.mw).mono ?_
      rintro e w18 ⟨rfl, hm18, ho18⟩
      have H18 := Lib.hid (H17.out.1.turn hm18 ho18)
      have H19 := Lib.hid (H18.out.two.bel.trans ((one_S w18 (frA Q.f) 38).mono H18.out.two.bel.size))
      have x0 : (w18.alloc (.cells (frA Q.f) 38)).cell? ⟨w18.heap.size, 0, none⟩ = some (.int .i64 Q.f.kind) := (FrOwn.new w18 Q.f).at.at 0 rfl
      have hk3 : (Q.f.kind == 3) = false := by rw [beq_eq_false_iff_ne]; exact HKd.out
      have hk4 : (Q.f.kind != 3) = true := by rw [bne, hk3]; rfl
      clear hm18 ho18 HK17 H17 H18 HKd
      go_wp2
      go_ret
      first | exact ⟨rfl, H19.out⟩ | exact ⟨by rw [hk4]; rfl, H19.out⟩ | exact ⟨by simp [hk4], H19.out⟩
end Go.Proofs.YtedlfognpbbhhaaGreatDoor.Ma
