/-
  A token that was taken is not taken again: walked. Conditions: the library's table of lowest bits is as the program lays it.
-/
import Derived.Test.YtedlfognpbbhhaaGreatDoorMaInv
import Derived.Test.YtedlfognpbbhhaaGreatDoorMaQ
namespace Go.Proofs.YtedlfognpbbhhaaGreatDoor.Ma
open Go.RowKit
open Go.Proofs.YtedlfognpbbhhaaGreatDoor.Epo (Ep cmpE newB maxE numE numM cmpN orL)
open Go.Proofs.YtedlfognpbbhhaaGreatDoor.Mem (St withB woB hasB passB nextI turnI gapB sv)
open Go.Proofs.YtedlfognpbbhhaaGreatDoor.Frm (Fr world_cut)
attribute [local go_sem ↓] exec_ldF exec_stF exec_bdF
attribute [local go_sem] bdF_5 bdF_9 bdF_0 stF_new0

/-! ### The first -/
def onceF (f : Fr) (hop : Nat) : Fr := ⟨1, f.src % 32, 2, f.sinc, 9, f.ec, f.ea % 32, f.ei, hop, 0, 0, 0, false, 0, 0, 0, 0, 0, ⟨#[]⟩⟩
theorem onceF_fit (f : Fr) (hop : Nat) (hf : f.fit) (hh : hop ≤ 65535) : (onceF f hop).fit := by
  obtain ⟨h1, h2, h3, h4, h5, h6, h7, h8, -⟩ := hf
  refine ⟨?_, by show ((2 : Nat) : Int) ≤ 255; decide, h3, by show ((9 : Nat) : Int) ≤ 65535; decide, h5, ?_, h7, by show (hop : Int) ≤ 65535; omega, by show ((0 : Nat) : Int) ≤ 65535; decide, by show ((0 : Nat) : Int) ≤ 255; decide, by show ((0 : Nat) : Int) ≤ 65535; decide, by show ((0 : Nat) : Int) ≤ 255; decide, by show ((0 : Nat) : Int) ≤ 65535; decide, by show ((0 : Nat) : Int) ≤ 4294967295; decide, by show ((0 : Nat) : Int) ≤ 255; decide, by show ((0 : Nat) : Int) ≤ 255; decide, by show (0 : Nat) ≤ maxLen; unfold maxLen; omega⟩
  · show ((f.src % 32 : Nat) : Int) ≤ 255
    omega
  · show ((f.ea % 32 : Nat) : Int) ≤ 255
    omega
def onceM (f : Fr) : Mc := takeM (folM { mindM (smallM 100 2 9) (onceF f f.hop) with high := epF (onceF f f.hop) } (onceF f f.hop) (mkF (onceF f f.hop))) (mkF (onceF f f.hop))
theorem ep_fit (f : Fr) (hf : f.fit) (hop : Nat) : (epF (onceF f hop)).fit := by
  obtain ⟨h1, h2, h3, h4, h5, h6, h7, h8, -⟩ := hf
  refine ⟨?_, ?_, ?_⟩
  · show f.ec ≤ 65535
    omega
  · show f.ea % 32 ≤ 255
    omega
  · show f.ei ≤ 65535
    omega
theorem zero_fit : (⟨0, 0, 0⟩ : Ep).fit := ⟨by decide, by decide, by decide⟩
theorem foll_take (M : Mc) (f : Fr) (k : Mk) (h1 : newB M.heard.e k.e M.heard.h k.h = false) (h2 : isToB M f = true) (h3 : newB k.e M.mark.e k.h M.mark.h = true) : follM M f k = takeM (folM M f k) k := by
  unfold follM
  rw [if_neg (by rw [h1]; decide), if_pos ⟨h2, h3⟩]
theorem once_first (f : Fr) (hf : f.fit) (hs : f.src % 32 ≠ 2) (he : ¬ (f.ec = 0 ∧ f.ea % 32 = 0 ∧ f.ei = 0)) : hearM (smallM 100 2 9) (onceF f f.hop) = onceM f := by
  have hr : Frm.rtB (onceF f f.hop) = true := Frm.rtB_yes ⟨by show (1 : Int) ≤ 1; decide, by show (1 : Int) ≤ 5; decide, rfl, by show f.src % 32 < 32; omega, by show (2 : Nat) < 32; decide, by show f.ea % 32 < 32; omega, by show (0 : Nat) < 32; decide, fun e => absurd (show (1 : Int) = 4 from e) (by decide)⟩
  have hm : mindsB (smallM 100 2 9) (onceF f f.hop) = true := by
    unfold mindsB
    rw [hr, decide_eq_true (show (onceF f f.hop).src ≠ (smallM 100 2 9).ad from hs), decide_eq_true (show (smallM 100 2 9).kn (onceF f f.hop).src ≤ (onceF f f.hop).sinc from Nat.zero_le _)]
    rfl
  have hn : 0 < numE (epF (onceF f f.hop)) := by
    show 0 < (f.ec * 256 + f.ea % 32) * 65536 + f.ei
    omega
  have h0 : numE ⟨0, 0, 0⟩ = 0 := rfl
  have hc : cmpE (epF (onceF f f.hop)) ⟨0, 0, 0⟩ = 1 := by rw [Epo.cmpE_num _ _ (ep_fit f hf _) zero_fit, h0]; exact Epo.cmpN_gt hn
  have hc2 : cmpE ⟨0, 0, 0⟩ (epF (onceF f f.hop)) = -1 := by rw [Epo.cmpE_num _ _ zero_fit (ep_fit f hf _), h0]; exact Epo.cmpN_lt hn
  unfold hearM
  rw [if_neg (show ¬ (smallM 100 2 9).st = 0 from by show ¬ (1 : Int) = 0; decide), if_pos hm, if_neg (show ¬ (onceF f f.hop).kind = 3 from by show ¬ (1 : Int) = 3; decide)]
  have hp : pollM (mindM (smallM 100 2 9) (onceF f f.hop)) (onceF f f.hop) = mindM (smallM 100 2 9) (onceF f f.hop) := by
    unfold pollM
    rw [if_neg (fun z => absurd (show (1 : Int) = 2 from z.1) (by decide))]
  rw [hp]
  unfold restM
  rw [if_neg (show ¬ cmpE (epF (onceF f f.hop)) (mindM (smallM 100 2 9) (onceF f f.hop)).high < 0 from by show ¬ cmpE (epF (onceF f f.hop)) ⟨0, 0, 0⟩ < 0; rw [hc]; decide), if_pos (show (onceF f f.hop).kind = 1 ∨ _ from .inl rfl)]
  have hw : wayM (mindM (smallM 100 2 9) (onceF f f.hop)) (mkF (onceF f f.hop)) = { mindM (smallM 100 2 9) (onceF f f.hop) with high := epF (onceF f f.hop) } := by
    unfold wayM way1
    rw [if_pos (show 0 < cmpE (mkF (onceF f f.hop)).e (mindM (smallM 100 2 9) (onceF f f.hop)).high from by show 0 < cmpE (epF (onceF f f.hop)) ⟨0, 0, 0⟩; rw [hc]; decide), if_neg (show ¬ (holdsB (mindM (smallM 100 2 9) (onceF f f.hop)).st = true ∨ (mindM (smallM 100 2 9) (onceF f f.hop)).st = 8) from by show ¬ (holdsB 1 = true ∨ (1 : Int) = 8); decide)]
    unfold way2
    rw [if_neg (fun z => absurd (show (1 : Int) = 8 from z.1) (by decide))]
    rfl
  rw [hw]
  have hx : newB (⟨0, 0, 0⟩ : Ep) (epF (onceF f f.hop)) 0 f.hop = false := by unfold newB orL; rw [hc2]; rfl
  have hy : newB (epF (onceF f f.hop)) (⟨0, 0, 0⟩ : Ep) f.hop 0 = true := by unfold newB orL; rw [hc]; rfl
  exact foll_take { mindM (smallM 100 2 9) (onceF f f.hop) with high := epF (onceF f f.hop) } _ _ hx rfl hy
theorem iv_once (f : Fr) (hf : f.fit) : Iv 1 (onceM f) :=
  ⟨⟨by show 2 < 32; decide, by show (4 : Int) ≤ 4 ∧ (4 : Int) ≤ 50; decide, by show (1 : Int) ≤ 1; decide, ⟨Int.le_refl _, by show (0 : Int) ≤ 1; decide⟩, ⟨Int.le_refl _, by show (0 : Int) ≤ 1; decide⟩, ⟨Int.le_refl _, by show (0 : Int) ≤ 1; decide⟩, ⟨by show (0 : Int) ≤ 1; decide, Int.le_refl _⟩, ⟨Int.le_refl _, Int.le_refl _⟩, ⟨Int.le_refl _, by show (0 : Int) ≤ 1; decide⟩, ⟨Int.le_refl _, by show (0 : Int) ≤ 1; decide⟩,
    ⟨Int.le_refl _, by show (-1 : Int) < 32; decide⟩, fun e => absurd (show (4 : Int) = 8 from e) (by decide), ⟨Int.le_refl _, by show (-1 : Int) < 32; decide⟩, ep_fit f hf _, ⟨ep_fit f hf _, by show f.hop ≤ 65535; have := hf.2.2.2.2.2.2.2.1; omega⟩⟩,
    by show 9 ≤ 65535; decide, Nat.le_refl _, ⟨ep_fit f hf _, by show f.hop ≤ 65535; have := hf.2.2.2.2.2.2.2.1; omega⟩⟩
/-- So many ticks later. -/
def tkN : Nat → Mc → Mc
  | 0, M => M
  | j + 1, M => (tickR (tkN j M) 0 0).m
theorem iv_tkN (M : Mc) (h : Iv 1 M) : ∀ j : Nat, Iv (1 + 2 * (j : Int)) (tkN j M) ∧ Up M (tkN j M)
  | 0 => ⟨h, Up.refl M⟩
  | j + 1 => by
    have h1 := iv_tkN M h j
    have h2 := st_tick h1.1 0 0
    exact ⟨h2.1.mono (by omega), h1.2.trans h2.2⟩

/-! ### The second -/
theorem newB_old (x y : Ep) (h k : Nat) (hx : x.fit) (hy : y.fit) (hh : h ≤ 65535) (hk : k ≤ 65535) (hn : numM x h ≤ numM y k) : newB x y h k = false := by
  unfold newB
  rw [decide_eq_false_iff_not, Epo.cmpE_num x y hx hy]
  unfold numM at hn
  rcases Nat.lt_trichotomy (numE x) (numE y) with e | e | e
  · rw [Epo.cmpN_lt e]
    show ¬ (0 : Int) < (if (-1 : Int) = 0 then _ else (-1 : Int))
    rw [if_neg (by decide)]; decide
  · rw [Epo.cmpN_eq e]
    have : h ≤ k := by omega
    rcases Nat.lt_or_eq_of_le this with e2 | e2
    · rw [Epo.cmpN_lt e2]
      decide
    · rw [Epo.cmpN_eq e2]
      decide
  · omega
theorem way_vm (M : Mc) (k : Mk) : (wayM M k).visits = M.visits ∧ (wayM M k).mark = M.mark := by
  have h1 : (way1 M k).visits = M.visits ∧ (way1 M k).mark = M.mark := by
    unfold way1
    split
    · split <;> exact ⟨rfl, rfl⟩
    · exact ⟨rfl, rfl⟩
  unfold wayM way2
  split
  · split <;> exact h1
  · exact h1
theorem again (M : Mc) (f : Fr) (hk : f.kind = 1) (hn : newB (epF f) M.mark.e f.hop M.mark.h = false) : (hearM M f).visits = M.visits := by
  unfold hearM
  split
  · rfl
  · split
    · rw [if_neg (by rw [hk]; decide)]
      have hp : pollM (mindM M f) f = mindM M f := by unfold pollM; rw [if_neg (fun z => by have := z.1; omega)]
      rw [hp]
      unfold restM
      split
      · rfl
      · rw [if_pos (.inl hk)]
        have hw := way_vm (mindM M f) (mkF f)
        have hn2 : newB (mkF f).e (wayM (mindM M f) (mkF f)).mark.e (mkF f).h (wayM (mindM M f) (mkF f)).mark.h = false := by rw [hw.2]; exact hn
        unfold follM
        split
        · exact hw.1
        · rw [if_neg (c := isToB (wayM (mindM M f) (mkF f)) f = true ∧ _) (fun z => by rw [hn2] at z; exact Bool.noConfusion z.2)]
          split <;> exact hw.1
    · rfl
theorem once_again (f : Fr) (hf : f.fit) (j hop : Nat) (hh : hop ≤ f.hop) : (hearM (tkN j (onceM f)) (onceF f hop)).visits = (tkN j (onceM f)).visits := by
  have h := iv_tkN (onceM f) (iv_once f hf) j
  have h8 := hf.2.2.2.2.2.2.2.1
  refine again _ _ rfl (newB_old _ _ _ _ (ep_fit f hf hop) h.1.mf.1 (by show hop ≤ 65535; omega) h.1.mf.2 ?_)
  have e : mN (onceM f).mark ≤ mN (tkN j (onceM f)).mark := h.2.mark _ (Nat.le_refl _) (Nat.le_refl _)
  refine Nat.le_trans ?_ e
  show numE (epF (onceF f hop)) * 65536 + hop ≤ numE (epF (onceF f f.hop)) * 65536 + f.hop
  have : numE (epF (onceF f hop)) = numE (epF (onceF f f.hop)) := rfl
  omega

/-! ### The law -/
theorem bdF_7 (a b c d e x y z h : Int) (W : World) : bdF #[(0, .int .i64 a), (1, .int .u8 b), (3, .int .u16 c), (2, .int .u8 d), (4, .int .u16 e), (5, .agg #[.int .u16 x, .int .u8 y, .int .u16 z]), (6, .int .u16 h)] W =
    .ok (.value (.agg #[.int .i64 a, .int .u8 b, .int .u8 d, .int .u16 c, .int .u16 e, .int .u16 x, .int .u8 y, .int .u16 z, .int .u16 h, .int .u16 0, .int .u8 0, .int .u16 0, .bool false, .int .u8 0, .int .u16 0, .int .u32 0, .int .u8 0, .int .u8 0, .string ⟨#[]⟩])) W := bdF_of _ _ W (by kernel_rfl)
attribute [local go_sem] bdF_7
/-- As it is first laid. -/
def onceF0 (f : Fr) : Fr := ⟨1, f.src % 32, 2, f.sinc, 9, f.ec, f.ea, f.ei, f.hop, 0, 0, 0, false, 0, 0, 0, 0, 0, ⟨#[]⟩⟩
theorem onceF0_A (f : Fr) : frA (onceF0 f) = #[.int .i64 1, .int .u8 ((f.src : Int) % 32), .int .u8 2, .int .u16 f.sinc, .int .u16 9, .int .u16 f.ec, .int .u8 f.ea, .int .u16 f.ei, .int .u16 f.hop, .int .u16 0, .int .u8 0, .int .u16 0, .bool false, .int .u8 0, .int .u16 0, .int .u32 0, .int .u8 0, .int .u8 0, .string ⟨#[]⟩] := by
  have e1 : ((f.src % 32 : Nat) : Int) = (f.src : Int) % 32 := by omega
  show (#[.int .i64 1, .int .u8 ((f.src % 32 : Nat) : Int), .int .u8 2, .int .u16 f.sinc, .int .u16 9, .int .u16 f.ec, .int .u8 f.ea, .int .u16 f.ei, .int .u16 f.hop, .int .u16 0, .int .u8 0, .int .u16 0, .bool false, .int .u8 0, .int .u16 0, .int .u32 0, .int .u8 0, .int .u8 0, .string ⟨#[]⟩] : Array Value) = _
  rw [e1]
theorem FrOwn.set {W : World} {b : Nat} {f g : Fr} (h : FrOwn W b f) (k : Nat) (v : Value) (e : (frC f).set k v = frC g) : FrOwn (W.setCell ⟨b, k, none⟩ v) b g := by
  have h1 := heap_setCell_same W b k _ _ v h
  unfold FrOwn
  rw [h1]
  have : (frA f).setIfInBounds k v = frA g := by
    unfold frA
    rw [List.setIfInBounds_toArray, e]
  rw [this]
/-- A frame of the call's own, ahead of the mac. -/
structure Bx1 (w W : World) (f : Fr) : Prop where
  fr : FrOwn W w.heap.size f
  tz : Mem.Tz W
  bel : Below w.heap.size w W
  z : 0 < w.heap.size
theorem Bx1.put {w W W' : World} {f g : Fr} (h : Bx1 w W f) (ho : OnlyL [w.heap.size] W W') (hg : FrOwn W' w.heap.size g) : Bx1 w W' g :=
  ⟨hg, tz_only h.tz ho (by have := h.z; simp; omega), h.bel.trans (ho.below (N := w.heap.size) (by simp) h.bel.size), h.z⟩
theorem Bx1.below {w W W' : World} {f : Fr} (h : Bx1 w W f) (hb : Below W.heap.size W W') : Bx1 w W' f := ⟨h.fr.below hb, h.tz.below hb, h.bel.trans (hb.mono h.bel.size), h.z⟩
/-- And the mac. -/
structure Two (w W : World) (b : Nat) (M : Mc) (f : Fr) : Prop where
  mw : Mw W b M
  fr : FrOwn W w.heap.size f
  bel : Below w.heap.size w W
  lt : w.heap.size < b
theorem Two.turn {w W W' : World} {b : Nat} {M M' : Mc} {f : Fr} (h : Two w W b M f) (hm : Mw W' b M') (ho : OnlyL [b] W W') : Two w W' b M' f :=
  ⟨hm, h.fr.only ho (by have := h.lt; simp; omega), h.bel.trans (ho.below (N := w.heap.size) (by have := h.lt; simp; omega) h.bel.size), h.lt⟩
theorem Two.put {w W W' : World} {b : Nat} {M : Mc} {f g : Fr} (h : Two w W b M f) (ho : OnlyL [w.heap.size] W W') (hg : FrOwn W' w.heap.size g) (hz : 0 < w.heap.size) : Two w W' b M g :=
  ⟨⟨(ho.block b h.mw.lt (by have := h.lt; simp; omega)).trans h.mw.head, tz_only h.mw.tz ho (by simp; omega), h.mw.ne⟩, hg, h.bel.trans (ho.below (N := w.heap.size) (by simp) h.bel.size), h.lt⟩
theorem Two.below {w W W' : World} {b : Nat} {M : Mc} {f : Fr} (h : Two w W b M f) (hb : Below W.heap.size W W') : Two w W' b M f := ⟨h.mw.below hb, h.fr.below hb, h.bel.trans (hb.mono h.bel.size), h.lt⟩
theorem Two.drewN {w W : World} {b : Nat} {M : Mc} {f : Fr} (h : Two w W b M f) (n : Nat) : Two w (W.drewN n) b M f := h.below (below_drewN _ _ _)
theorem onceF_A (f : Fr) (h : Nat) : frA (onceF f h) = #[.int .i64 1, .int .u8 ((f.src : Int) % 32), .int .u8 2, .int .u16 f.sinc, .int .u16 9, .int .u16 f.ec, .int .u8 ((f.ea : Int) % 32), .int .u16 f.ei, .int .u16 h, .int .u16 0, .int .u8 0, .int .u16 0, .bool false, .int .u8 0, .int .u16 0, .int .u32 0, .int .u8 0, .int .u8 0, .string ⟨#[]⟩] := by
  have e1 : ((f.src % 32 : Nat) : Int) = (f.src : Int) % 32 := by omega
  have e2 : ((f.ea % 32 : Nat) : Int) = (f.ea : Int) % 32 := by omega
  show (#[.int .i64 1, .int .u8 ((f.src % 32 : Nat) : Int), .int .u8 2, .int .u16 f.sinc, .int .u16 9, .int .u16 f.ec, .int .u8 ((f.ea % 32 : Nat) : Int), .int .u16 f.ei, .int .u16 h, .int .u16 0, .int .u8 0, .int .u16 0, .bool false, .int .u8 0, .int .u16 0, .int .u32 0, .int .u8 0, .int .u8 0, .string ⟨#[]⟩] : Array Value) = _
  rw [e1, e2]
set_option maxRecDepth 100000 in
set_option maxHeartbeats 4000000 in
theorem cOnce (w : World) (hT : Mem.Tz w) (f : Fr) (hf : f.fit) (t lower : Nat) (ht : (t : Int) ≤ 255) (hl : (lower : Int) ≤ 65535) :
    Calls Tryz.prog 4 #[.agg (frA f), .int .u8 t, .int .u16 lower] w (Tells (.bool true) w) := by
  have HA := Lib.hid (fun W (k : Mem.Tz W) => cAwake W k)
  have HN := Lib.hid (fun W (k : Mem.Tz W) => cNew W (nums_small 100 (by decide)) 2 9 (by decide) true k)
  have HS := Lib.hid (fun W => cSmall W)
  have HB := Lib.hid (one_S w (frA f) 38)
  have HF := Lib.hid (FrOwn.new w f)
  have HT := Lib.hid hT
  clear hT
  go_enter Tryz.func4, Tryz.ntmps4
  go_wp2_with fail
  refine (HA.out _ (HT.out.below HB.out)).mono ?_
  rintro e w1 ⟨rfl, hb1⟩
  have H1 := Lib.hid (⟨HF.out.below hb1, (HT.out.below HB.out).below hb1, HB.out.trans (hb1.mono HB.out.size), tz_lt HT.out⟩ : Bx1 w w1 f)
  clear hb1 HA HF HT HB
  have x1 : w1.cell? ⟨w.heap.size, 1, none⟩ = some (.int .u8 f.src) := H1.out.fr.at.at 1 rfl
  have x3 : w1.cell? ⟨w.heap.size, 3, none⟩ = some (.int .u16 f.sinc) := H1.out.fr.at.at 3 rfl
  have x5 : w1.cell? ⟨w.heap.size, 5, none⟩ = some (.int .u16 f.ec) := H1.out.fr.at.at 5 rfl
  have x6 : w1.cell? ⟨w.heap.size, 6, none⟩ = some (.int .u8 f.ea) := H1.out.fr.at.at 6 rfl
  have x7 : w1.cell? ⟨w.heap.size, 7, none⟩ = some (.int .u16 f.ei) := H1.out.fr.at.at 7 rfl
  have x8 : w1.cell? ⟨w.heap.size, 8, none⟩ = some (.int .u16 f.hop) := H1.out.fr.at.at 8 rfl
  obtain ⟨w2, hst, H2⟩ : ∃ w2, stF (.pointer (some ⟨w.heap.size, 0, none⟩)) (.agg #[.int .i64 1, .int .u8 ((f.src : Int) % 32), .int .u8 2, .int .u16 f.sinc, .int .u16 9, .int .u16 f.ec, .int .u8 f.ea, .int .u16 f.ei, .int .u16 f.hop, .int .u16 0, .int .u8 0, .int .u16 0, .bool false, .int .u8 0, .int .u16 0, .int .u32 0, .int .u8 0, .int .u8 0, .string ⟨#[]⟩]) w1 = .ok .skip w2 ∧
      Hid (Bx1 w w2 (onceF0 f)) := by
    rw [← onceF0_A]
    exact ⟨_, H1.out.fr.st (onceF0 f), H1.out.put (OnlyL.sets (by simp) _ _ _) (H1.out.fr.put (onceF0 f))⟩
  have y1 : w2.cell? ⟨w.heap.size, 1, none⟩ = some (.int .u8 ((f.src : Int) % 32)) := by rw [H2.out.fr.at.at 1 rfl]; rfl
  have y5 : w2.cell? ⟨w.heap.size, 5, none⟩ = some (.int .u16 f.ec) := H2.out.fr.at.at 5 rfl
  have y6 : w2.cell? ⟨w.heap.size, 6, none⟩ = some (.int .u8 f.ea) := H2.out.fr.at.at 6 rfl
  have y7 : w2.cell? ⟨w.heap.size, 7, none⟩ = some (.int .u16 f.ei) := H2.out.fr.at.at 7 rfl
  have f6 : w2.frozen? ⟨w.heap.size, 6, none⟩ = false := H2.out.fr.free 6
  have H3 : Hid (Bx1 w (w2.setCell ⟨w.heap.size, 6, none⟩ (.int .u8 ((f.ea : Int) % 32))) (onceF f f.hop)) := Lib.hid (H2.out.put (OnlyL.set (by simp) 6 _) (H2.out.fr.set 6 _ rfl))
  clear H1 H2
  have HW := Lib.hid (fun (hs : f.src % 32 ≠ 2) (he : ¬ (f.ec = 0 ∧ f.ea % 32 = 0 ∧ f.ei = 0)) => once_first f hf hs he)
  have HH := Lib.hid (fun W b (z : Mw W b (smallM 100 2 9)) => cHear z (ok_small 100 2 9 (by decide)) (by decide) (onceF f f.hop) (onceF_fit f f.hop hf (by have := hf.2.2.2.2.2.2.2.1; omega)))
  have HI := Lib.hid (fun j => iv_tkN (onceM f) (iv_once f hf) j)
  have HG := Lib.hid (fun j hop (hh : hop ≤ f.hop) => once_again f hf j hop hh)
  have HC := Lib.hid (fun hop (hh : hop ≤ f.hop) => onceF_fit f hop hf (by have := hf.2.2.2.2.2.2.2.1; omega))
  have hop16 : (f.hop : Int) ≤ 65535 := hf.2.2.2.2.2.2.2.1
  clear hf
  by_cases hs : f.src % 32 = 2
  · have hs2 : ((f.src : Int) % 32 == 2) = true := by rw [beq_iff_eq]; omega
    go_wp2
    go_ret
    exact ⟨rfl, H3.out.bel⟩
  have hs2 : ((f.src : Int) % 32 == 2) = false := by rw [beq_eq_false_iff_ne]; omega
  go_wp2_with fail
  all_goals
    first
    | (have hz : (f.ea : Int) % 32 = 0 := by assumption
       rw [hz] at H3
       go_ret
       exact ⟨rfl, H3.out.bel⟩)
    | skip
  all_goals
    have he : ¬ (f.ec = 0 ∧ f.ea % 32 = 0 ∧ f.ei = 0) := by omega
    clear y1 y5 y6 y7 f6 hst hs2 x1 x3 x5 x6 x7 x8
    have H3' := H3
    clear H3
    first
    | (have hz : (f.ea : Int) % 32 = 0 := by assumption
       rw [hz] at H3'
       generalize w2.setCell ⟨w.heap.size, 6, none⟩ (.int .u8 0) = w3 at *)
    | (generalize w2.setCell ⟨w.heap.size, 6, none⟩ (.int .u8 ((f.ea : Int) % 32)) = w3 at *)
    refine (HS.out _).mono ?_
    rintro e w4 ⟨rfl, hb4⟩
    have H4 := Lib.hid (H3'.out.below hb4)
    have h4lt : w.heap.size < w4.heap.size := H4.out.fr.lt
    clear hb4 H3' HS
    go_wp2_with fail
    refine (HN.out _ H4.out.tz).mono ?_
    rintro e w5 ⟨b, rfl, hm5, hb5, hge5⟩
    have H5 := Lib.hid (⟨hm5, H4.out.fr.below hb5, H4.out.bel.trans (hb5.mono H4.out.bel.size), Nat.lt_of_lt_of_le h4lt hge5⟩ : Two w w5 b (smallM 100 2 9) (onceF f f.hop))
    have HZ := Lib.hid H4.out.z
    clear H4 hm5 hb5 hge5 HN h4lt
    have hld := H5.out.fr.at.ld
    go_wp2_with fail
    refine (HH.out _ _ H5.out.mw).mono ?_
    rintro e w6 ⟨rfl, hm6, ho6⟩
    rw [HW.out hs he] at hm6
    have H6 := Lib.hid (H5.out.turn hm6 ho6)
    clear hm6 ho6 H5 hld
    go_wp2_with fail
    refine (cVisits H6.out.mw).mono ?_
    rintro e w7 ⟨rfl, m, rfl⟩
    have H7 := Lib.hid (fun n => H6.out.drewN n)
    clear H6
    obtain ⟨k, hk⟩ : ∃ k, k = mkF (onceF f f.hop) := ⟨_, rfl⟩
    have HTk : Hid (∀ W, Mw W b (onceM f) → Calls Tryz.prog 12 #[.pointer (some ⟨b, 0, none⟩)] W (Tells (.agg #[.int .u16 k.e.c, .int .u8 k.e.a, .int .u16 k.e.i, .int .u16 k.h]) W)) := Lib.hid (by rw [hk]; exact fun W z => cToken z)
    have HY : Hid (∀ W, FrOwn W w.heap.size (onceF f f.hop) → W.cell? ⟨w.heap.size, 5, none⟩ = some (.int .u16 k.e.c) ∧ W.cell? ⟨w.heap.size, 6, none⟩ = some (.int .u8 k.e.a) ∧ W.cell? ⟨w.heap.size, 7, none⟩ = some (.int .u16 k.e.i) ∧ W.cell? ⟨w.heap.size, 8, none⟩ = some (.int .u16 k.h)) :=
      Lib.hid (by rw [hk]; exact fun W z => ⟨z.at.at 5 rfl, z.at.at 6 rfl, z.at.at 7 rfl, z.at.at 8 rfl⟩)
    have HHo : Hid (∀ W, Mw W b (onceM f) → Calls Tryz.prog 23 #[.pointer (some ⟨b, 0, none⟩)] W (Tells (.bool true) W)) := Lib.hid (fun W z => (cHolds z).mono (fun e w' h => ⟨h.1, h.2 ▸ Below.refl _ _⟩))
    clear hk
    rw [show (onceM f).visits = 1 from rfl]
    go_wp2_with fail
    go_region_held3 (fun W' => W'.cell? ⟨w.heap.size, 5, none⟩ = some (.int .u16 k.e.c) ∧ W'.cell? ⟨w.heap.size, 6, none⟩ = some (.int .u8 k.e.a) ∧ W'.cell? ⟨w.heap.size, 7, none⟩ = some (.int .u16 k.e.i) ∧ W'.cell? ⟨w.heap.size, 8, none⟩ = some (.int .u16 k.h)) (first | exact HY.out _ (H7.out m).fr.drew | exact HY.out _ (H7.out _).fr | exact HY.out _ H8.out.fr | exact HY.out _ H9.out.fr) ((first | (go_at_call 23; refine (HHo.out _ (H7.out _).mw).mono ?_; rintro e w8 ⟨rfl, hb8⟩; have H8 := Lib.hid ((H7.out _).below hb8)) | (go_at_call 12; refine (HTk.out _ H8.out.mw).mono ?_; rintro e w9 ⟨rfl, hb9⟩; have H9 := Lib.hid (H8.out.below hb9))))
    clear HTk HY HHo H7 H8 HW HH he hs
    go_wp2
    go_loopw [70] (fun i W => ∃ j : Nat, j ≤ t % 20 ∧ i = .int .u8 j ∧ Hid (Two w W b (tkN j (onceM f)) (onceF f f.hop))) (fun i _ => 20 - (intOf i).toNat)
    case atStart => exact ⟨0, by omega, rfl, H9⟩
    case round =>
      obtain ⟨j, hj, rfl, hS⟩ := hrel
      clear H9
      by_cases hlt : j < t % 20
      · have HK := Lib.hid (fun W (z : Mw W b (tkN j (onceM f))) => cTick z (HI.out j).1.ok (by omega) 0 0)
        have hlt2 : (j : Int) < (t : Int) % 20 := by omega
        go_wp2_with fail
        refine (HK.out _ hS.out.mw).mono ?_
        rintro e w3 ⟨rfl, hm3, ho3⟩
        have H3 := Lib.hid (show Two w w3 b (tkN (j + 1) (onceM f)) (onceF f f.hop) from hS.out.turn hm3 ho3)
        clear hm3 ho3 HK hS
        go_wp2
        go_roundw
        case rel => exact ⟨j + 1, by omega, by go_num, H3⟩
        case measure => simp [intOf]; omega
      · obtain rfl : j = t % 20 := by omega
        have hlt2 : ¬ (((t % 20 : Nat) : Int) < (t : Int) % 20) := by omega
        have HV := Lib.hid (cVisits hS.out.mw)
        have HP := Lib.hid (fun n => hS.out.drewN n)
        clear hS
        have HTi := Lib.hid (fun hop (hh : hop ≤ f.hop) W (z : Mw W b (tkN (t % 20) (onceM f))) => cHear z (HI.out (t % 20)).1.ok (by omega) (onceF f hop) (HC.out hop hh))
        have HGi := Lib.hid (fun hop (hh : hop ≤ f.hop) => HG.out (t % 20) hop hh)
        generalize tkN (t % 20) (onceM f) = Mj at *
        go_wp2_with fail
        refine HV.out.mono ?_
        rintro e w11 ⟨rfl, m2, rfl⟩
        by_cases hml : f.hop < lower
        · have hq : 0 ≤ f.hop := Nat.zero_le _
          have ew : IntKind.u16.wrap ((f.hop : Int) - f.hop) = 0 := by rw [IntKind.wrap_u16]; omega
          have x8 : ∀ n, (wr.drewN n).cell? ⟨w.heap.size, 8, none⟩ = some (.int .u16 f.hop) := fun n => (HP.out n).fr.at.at 8 rfl
          have f8 : ∀ n, (wr.drewN n).frozen? ⟨w.heap.size, 8, none⟩ = false := fun n => (HP.out n).fr.free 8
          have HP2 : Hid (∀ n, Two w ((wr.drewN n).setCell ⟨w.heap.size, 8, none⟩ (.int .u16 0)) b Mj (onceF f 0)) := Lib.hid (fun n => (HP.out n).put (OnlyL.set (by simp) 8 _) ((HP.out n).fr.set 8 _ rfl) HZ.out)
          have hld := fun n => (HP2.out n).fr.at.ld
          go_wp2_with fail
          refine (HTi.out 0 hq _ (HP2.out _).mw).mono ?_
          rintro e w12 ⟨rfl, hm12, ho12⟩
          have H12 := Lib.hid ((HP2.out _).turn hm12 ho12)
          clear hm12 ho12 HP HP2 x8 f8 hld
          go_wp2_with fail
          refine (cVisits H12.out.mw).mono ?_
          rintro e w13 ⟨rfl, m3, rfl⟩
          rw [HGi.out 0 hq]
          have HB := Lib.hid (H12.out.drewN m3).bel
          clear H12
          go_wp2
          go_ret
          exact ⟨rfl, HB.out⟩
        · obtain ⟨q, hq, ew⟩ : ∃ q : Nat, q ≤ f.hop ∧ IntKind.u16.wrap ((f.hop : Int) - lower) = (q : Int) := ⟨f.hop - lower, by omega, by rw [IntKind.wrap_u16]; omega⟩
          have x8 : ∀ n, (wr.drewN n).cell? ⟨w.heap.size, 8, none⟩ = some (.int .u16 f.hop) := fun n => (HP.out n).fr.at.at 8 rfl
          have f8 : ∀ n, (wr.drewN n).frozen? ⟨w.heap.size, 8, none⟩ = false := fun n => (HP.out n).fr.free 8
          have HP2 : Hid (∀ n, Two w ((wr.drewN n).setCell ⟨w.heap.size, 8, none⟩ (.int .u16 (q : Int))) b Mj (onceF f q)) := Lib.hid (fun n => (HP.out n).put (OnlyL.set (by simp) 8 _) ((HP.out n).fr.set 8 _ rfl) HZ.out)
          have hld := fun n => (HP2.out n).fr.at.ld
          go_wp2_with fail
          refine (HTi.out q hq _ (HP2.out _).mw).mono ?_
          rintro e w12 ⟨rfl, hm12, ho12⟩
          have H12 := Lib.hid ((HP2.out _).turn hm12 ho12)
          clear hm12 ho12 HP HP2 x8 f8 hld
          go_wp2_with fail
          refine (cVisits H12.out.mw).mono ?_
          rintro e w13 ⟨rfl, m3, rfl⟩
          rw [HGi.out q hq]
          have HB := Lib.hid (H12.out.drewN m3).bel
          clear H12
          go_wp2
          go_ret
          exact ⟨rfl, HB.out⟩
end Go.Proofs.YtedlfognpbbhhaaGreatDoor.Ma
