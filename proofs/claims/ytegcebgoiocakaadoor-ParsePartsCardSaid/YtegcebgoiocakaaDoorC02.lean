/- The document's examples of package parse. -/
import Derived.Test.YtegcebgoiocakaaDoorA15
import Derived.Test.YtegcebgoiocakaaDoorA17
import Derived.Test.YtegcebgoiocakaaDoorA18
import Derived.Test.YtegcebgoiocakaaDoorC01
import Derived.KernelRfl
import Derived.Test.YtegcebgoiocakaaDoorRows
import Derived.Lib.LaidTab
import Derived.Lib.AppendIntMem
import Derived.OpenShut
import Derived.Stop.Joined
import Derived.LaidMore
import Derived.MakeChecks
import Derived.ProofKit
namespace Go.Proofs.YtegcebgoiocakaaDoor
open Go Go.RowKit
set_option linter.unusedVariables false
set_option maxRecDepth 20000

/-- What the program's set answers. -/
theorem facesS : FacesS where
  of w A n c s h hn := of_any s A n c w h (by omega)
  no w A n c s h hn := not_any s A n c w h (by omega)
  named w c h0 h1 := named_any w c h0 h1
  noName c h0 h1 h w := named_other c h0 h1 h w

def awakeT : Wood := .cons 5 [] 0 0 (.cons 1 [(97, 97)] 0 0 .nil (.cons 6 [] 0 (-1) (.cons 1 [(98, 98)] 0 0 .nil .nil) .nil)) .nil
theorem awake_tree : parseT ⟨#[97, 124, 98, 42]⟩ = some awakeT := by kernel_rfl
theorem awake_none : parseT ⟨#[97, 42, 42]⟩ = none := by kernel_rfl
theorem itoa_two {a b : Nat} (ha : 0 < a) (ha2 : a < 10) (hb : b < 10) : Lib.itoa ((10 * a + b : Nat) : Int) = [UInt8.ofNat (48 + a), UInt8.ofNat (48 + b)] := by
  unfold Lib.itoa
  rw [if_neg (by omega)]
  rw [show (((10 * a + b : Nat) : Int)).toNat = 10 * a + b by omega, decDigits_big (by omega), decDigits_small (u := (10 * a + b) / 10) (by omega), decDigits_small (u := (10 * a + b) % 10) (by omega), show (10 * a + b) / 10 = a by omega, show (10 * a + b) % 10 = b by omega]
  rfl
theorem awake_show : oneB awakeT = ⟨#[97, 108, 116, 40, 99, 104, 97, 114, 123, 57, 55, 125, 44, 114, 101, 112, 123, 48, 32, 45, 49, 125, 40, 99, 104, 97, 114, 123, 57, 56, 125, 41, 41]⟩ := by
  have d1 : digB 97 = ⟨#[57, 55]⟩ := by unfold digB; rw [show (97 : Int) = ((10 * 9 + 7 : Nat) : Int) from rfl, itoa_two (by decide) (by decide) (by decide)]; rfl
  have d2 : digB 98 = ⟨#[57, 56]⟩ := by unfold digB; rw [show (98 : Int) = ((10 * 9 + 8 : Nat) : Int) from rfl, itoa_two (by decide) (by decide) (by decide)]; rfl
  have d3 : digB 0 = ⟨#[48]⟩ := by unfold digB Lib.itoa; rw [if_neg (by decide), decDigits_small (by decide)]; rfl
  have d4 : digB (-1) = ⟨#[45, 49]⟩ := by unfold digB Lib.itoa; rw [if_pos (by decide), decDigits_small (by decide)]; rfl
  show nodeB 5 [] 0 0 (joinB (strB [44]) [nodeB 1 [(97, 97)] 0 0 ByteArray.empty, nodeB 6 [] 0 (-1) (joinB (strB [44]) [nodeB 1 [(98, 98)] 0 0 ByteArray.empty])]) = _
  unfold nodeB
  simp only [setB, List.map, joinB, rngB, d1, d2, d3, d4]
  rfl

theorem parse_some {s : ByteArray} {T : Wood} (h : parseT s = some T) (hs : s.size ≤ 200) (w : World) :
    Calls Tryd.prog 5 #[.string s] w fun e w' => ∃ x : NV, e = .returned (.tuple #[x.val, .int .i64 0]) ∧ NodesIn (fun b => w.heap.size ≤ b) w' [x] T ∧ Below w.heap.size w w' := by
  refine (parse_any facesS s w).mono fun e w' hv => ?_
  obtain ⟨hb, ⟨h2, _⟩ | ⟨_, h2, _⟩ | ⟨x, n, _, h2, he, hN⟩⟩ := hv
  · omega
  · rw [h] at h2; cases h2
  · rw [h] at h2
    injection h2 with h2
    subst h2
    exact ⟨x, he, hN, hb⟩
theorem parse_no {s : ByteArray} (h : parseT s = none) (hs : s.size ≤ 200) (w : World) :
    Calls Tryd.prog 5 #[.string s] w fun e w' => e = .returned (.tuple #[zeroNV.val, .int .i64 15]) ∧ Below w.heap.size w w' := by
  refine (parse_any facesS s w).mono fun e w' hv => ?_
  obtain ⟨hb, ⟨h2, _⟩ | ⟨_, _, he⟩ | ⟨x, n, _, h2, he, hN⟩⟩ := hv
  · omega
  · exact ⟨he, hb⟩
  · rw [h] at h2; cases h2
theorem NodesIn.below {F : Nat → Prop} {w w' : World} {xs : List NV} {T : Wood} (h : NodesIn F w xs T) (hb : Below w.heap.size w w') : NodesIn F w' xs T := h.move hb.size fun b hF hlt => ⟨hF, hb.block b hlt⟩
theorem NodesIn.one' {F : Nat → Prop} {w : World} {x : NV} {T : Wood} (h : NodesIn F w [x] T) : NodeIn F w (.agg #[.int .i64 x.op, .slice x.A x.ns x.cs, .int .i64 x.mn, .int .i64 x.mx, .slice x.D x.nk x.ck]) T := h.one
theorem awake_wf : WfW awakeT := by
  have i : ∀ n : Int, -1000 ≤ n ∧ n ≤ 1000 → In64 n := fun n h => by unfold In64; omega
  have e : ∀ p ∈ ([] : List (Int × Int)), In64 p.1 ∧ In64 p.2 := fun p hp => by cases hp
  have c : ∀ k : Int, -1000 ≤ k ∧ k ≤ 1000 → ∀ p ∈ [(k, k)], In64 p.1 ∧ In64 p.2 := fun k hk p hp => by
    rw [List.mem_singleton] at hp; subst hp; exact ⟨i _ hk, i _ hk⟩
  exact ⟨⟨i _ (by decide), i _ (by decide), i _ (by decide), e⟩, ⟨⟨i _ (by decide), i _ (by decide), i _ (by decide), c _ (by decide)⟩, trivial, ⟨i _ (by decide), i _ (by decide), i _ (by decide), e⟩, ⟨⟨i _ (by decide), i _ (by decide), i _ (by decide), c _ (by decide)⟩, trivial, trivial⟩, trivial⟩, trivial⟩
set_option maxHeartbeats 2000000 in
theorem awake_any (w : World) (ht : Tab w.heap.size w) : Calls Tryd.prog 4 #[] w fun e w' => e = .returned (.bool true) ∧ Below w.heap.size w w' := by
  have HP1 := Lib.hid (parse_some awake_tree (by decide) w)
  have HP2 := Lib.hid fun w => parse_no awake_none (by decide) w
  have HTB := Lib.hid ht
  have hsh := awake_show
  obtain ⟨R, hR⟩ : ∃ R, R = oneB awakeT := ⟨_, rfl⟩
  rw [← hR] at hsh
  have HR := Lib.hid hR
  subst hsh
  clear hR ht
  go_enter Tryd.func4, Tryd.ntmps4
  go_wp2_with (first
    | (go_at_call 5; (with_reducible refine HP1.out.mono ?_); rintro e w1 ⟨x, rfl, hN, hb⟩; have H1 := Lib.hid (And.intro hN hb); clear hN hb; simp only [NV.val])
    | (go_at_call 5; (with_reducible refine (HP2.out _).mono ?_); rintro e w2 ⟨rfl, hb⟩; have hb2 : Below w.heap.size w w2 := (H1.out.2.alloc H1.out.2.size (.cells #[.int .i64 x.op, .slice x.A x.ns x.cs, .int .i64 x.mn, .int .i64 x.mx, .slice x.D x.nk x.ck] 26)).trans (hb.mono (Nat.le_trans H1.out.2.size (by simp))); have hbx : w2.heap[w1.heap.size]? = _ := (hb.block _ (by simp)).trans (heap_alloc_new w1 (.cells #[.int .i64 x.op, .slice x.A x.ns x.cs, .int .i64 x.mn, .int .i64 x.mx, .slice x.D x.nk x.ck] 26)); have H2 := Lib.hid (And.intro hb2 (H1.out.1.below (((Below.refl _ _).alloc (Nat.le_refl _) (.cells #[.int .i64 x.op, .slice x.A x.ns x.cs, .int .i64 x.mn, .int .i64 x.mx, .slice x.D x.nk x.ck] 26)).trans (hb.mono (by simp))))); obtain ⟨p0, p1, p2, p3, p4, _⟩ := box_facts hbx; have up := fun (j : Nat) (v : Value) (h : w2.cell? ⟨w1.heap.size, j, none⟩ = some v) => (((Below.refl w2.heap.size w2).alloc (Nat.le_refl _) (.cells #[.int .i64 0, .slice none 0 0, .int .i64 0, .int .i64 0, .slice none 0 0] 26)).cell (p := ⟨w1.heap.size, j, none⟩) (Nat.lt_of_lt_of_le (by simp) hb.size)).trans h; have d0 := up _ _ p0; have d1 := up _ _ p1; have d2 := up _ _ p2; have d3 := up _ _ p3; have d4 := up _ _ p4; clear hb2 hbx hb up; simp only [zeroNV, NV.val])
    | (go_at_call 8; (with_reducible refine (pshow_any awakeT (fun b => w.heap.size ≤ b) _ _ ((H2.out.2.below ((Below.refl _ _).alloc (Nat.le_refl _) (.cells #[.int .i64 0, .slice none 0 0, .int .i64 0, .int .i64 0, .slice none 0 0] 26))).one') awake_wf (by decide) ((HTB.out.on (H2.out.1.alloc H2.out.1.size (.cells #[.int .i64 0, .slice none 0 0, .int .i64 0, .int .i64 0, .slice none 0 0] 26))).up (Nat.le_trans H2.out.1.size (by simp)))).mono ?_); rintro e w3 ⟨rfl, hb⟩; rw [← HR.out]; have H3 := Lib.hid hb; clear hb))
  go_ret
  exact ⟨rfl, (H2.out.1.alloc H2.out.1.size _).trans (H3.out.mono (Nat.le_trans H2.out.1.size (by simp)))⟩
end Go.Proofs.YtegcebgoiocakaaDoor
/- The listed variables: out of the row's condition the table of powers; and a world that meets the condition. -/
namespace Go.Proofs.YtegcebgoiocakaaDoor
open Go Go.ChangeShapes Go.WideShapes Go.ChangeAt Go.RowKit
set_option maxRecDepth 20000

theorem gPow : Tryd.prog.globalNamed "internal/strconv.uint64pow10" = some 0 := by kernel_rfl
theorem tPow : (Tryd.prog.globals[0]?).map (·.type) = some 86 := by kernel_rfl
theorem dPow : (Rows.laid_internal_strconv_uint64pow10 : DataW Unit) = Lib.tabData .u64 Lib.pow10Tab := by kernel_rfl
/-- What the walks ask: the table of powers is laid. -/
def Pow (w : World) : Prop := Tab w.heap.size w
/-- WHAT THE CONDITION GIVES: the table of powers. -/
theorem pow_of_laid {W : World} (h : laidMetH Tryd.prog [("math/bits.deBruijn32tab", Rows.laid_math_bits_deBruijn32tab), ("math/bits.deBruijn64tab", Rows.laid_math_bits_deBruijn64tab), ("internal/strconv.uint64pow10", Rows.laid_internal_strconv_uint64pow10)] W) : Pow W := by
  rw [MakeChecks.laidMetH_plain _ _ _ (by kernel_rfl), dPow] at h
  obtain ⟨ps, hv, _⟩ := h
  obtain ⟨ps2, hv2⟩ : ∃ ps2, DataW.LaidVars Tryd.prog W [("internal/strconv.uint64pow10", (Lib.tabData .u64 Lib.pow10Tab : DataW Unit))] ps2 := by
    obtain ⟨_, _, _, _, _, q1, _, _, _, _, h1, h2⟩ := hv
    first
      | (obtain ⟨_, _, _, _, _, q2, _, _, _, _, h3, h4⟩ := h1; first | exact ⟨q2, h3⟩ | exact ⟨q2, h4⟩)
      | (obtain ⟨_, _, _, _, _, q2, _, _, _, _, h3, h4⟩ := h2; first | exact ⟨q2, h3⟩ | exact ⟨q2, h4⟩)
  obtain ⟨g', t', cs, fuel, p, q, hg', ht', hvar, hd, _, _⟩ := hv2
  obtain rfl := Option.some.inj (gPow.symm.trans hg')
  obtain rfl := Option.some.inj (tPow.symm.trans ht')
  refine Lib.tabBelow_of_tabIs ?_
  unfold Lib.TabIs
  rw [hvar, ← Lib.cells_of_tab Tryd.underlying86 Tryd.underlying71 (by kernel_rfl) (by kernel_rfl) hd]
/-- The door's own heap meets the condition: three closed facts. -/
theorem door_met (os : Os) (args : Array Value) : laidMetH Tryd.prog [("math/bits.deBruijn32tab", Rows.laid_math_bits_deBruijn32tab), ("math/bits.deBruijn64tab", Rows.laid_math_bits_deBruijn64tab), ("internal/strconv.uint64pow10", Rows.laid_internal_strconv_uint64pow10)] ((World.doorLaid Tryd.prog 400 os).forCall (fun _ _ => 0) ⟨#[], args, []⟩).memory :=
  laidMetH_of_parts3 (fuel := 8) (laidMet_of_run' 8 (by kernel_rfl) (by kernel_rfl)) (by kernel_rfl) (by kernel_rfl)
end Go.Proofs.YtegcebgoiocakaaDoor
