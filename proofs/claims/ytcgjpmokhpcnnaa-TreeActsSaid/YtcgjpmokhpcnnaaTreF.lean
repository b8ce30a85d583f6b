/- What the program's tree answers, of any representation; the laws' own state: a tree behind a world. -/
import Derived.Test.YtcgjpmokhpcnnaaTreP
namespace Go.Proofs.Ytcgjpmokhpcnnaa
open Go Go.RowKit
set_option linter.unusedVariables false
set_option maxRecDepth 20000

/-- How a tree of parents and causes lies in memory: in which blocks, at which one. -/
abbrev TP := World → (Nat → Prop) → Nat → List Int → List Int → Prop
/-- What the program's tree is to answer. -/
structure TreF (P : TP) : Prop where
  fr : ∀ {w w' : World} {F : Nat → Prop} {g : Nat} {up ca : List Int}, P w F g up ca → (∀ k, F k → w'.heap[k]? = w.heap[k]?) → w.heap.size ≤ w'.heap.size → P w' F g up ca
  low : ∀ {w : World} {F : Nat → Prop} {g : Nat} {up ca : List Int}, P w F g up ca → ∀ k, F k → k < w.heap.size
  new : ∀ w, Calls Try.prog 8 #[] w fun e w' => ∃ g F, e = .returned (.pointer (some ⟨g, 0, none⟩)) ∧ P w' F g [-1] [0] ∧ Below w.heap.size w w' ∧ ∀ k, F k → w.heap.size ≤ k
  add : ∀ {w : World} {F : Nat → Prop} {g : Nat} {up ca : List Int} (n : Int), P w F g up ca → WfUp up → ca.length = up.length → up.length ≤ 256 →
    Calls Try.prog 10 #[.pointer (some ⟨g, 0, none⟩), .int .i64 n] w fun e w' => e = .returned (.tuple #[.int .i64 (addX up n), .int .i64 (addE up n)]) ∧ ∃ F', P w' F' g (addU up n) (addC up ca n) ∧ Step F F' w w'
  can : ∀ {w : World} {F : Nat → Prop} {g : Nat} {up ca : List Int} (n cause : Int), P w F g up ca → WfUp up → ca.length = up.length → up.length ≤ 256 →
    Calls Try.prog 12 #[.pointer (some ⟨g, 0, none⟩), .int .i64 n, .int .i64 cause] w fun e w' => e = .returned (.tuple #[.int .i64 (if canE up n cause = 0 then (canN up ca n up.length : Int) else 0), .int .i64 (canE up n cause)]) ∧ ∃ F', P w' F' g up (if canE up n cause = 0 then canC up ca n cause up.length else ca) ∧ Step F F' w w'
  cau : ∀ {w : World} {F : Nat → Prop} {g : Nat} {up ca : List Int} (n : Int), P w F g up ca → WfUp up → ca.length = up.length → up.length ≤ 256 →
    Calls Try.prog 18 #[.pointer (some ⟨g, 0, none⟩), .int .i64 n] w fun e w' => e = .returned (.int .i64 (if isB up n = true then ca.getD n.toNat 0 else 0)) ∧ ∃ q, w' = w.drewN q
  par : ∀ {w : World} {F : Nat → Prop} {g : Nat} {up ca : List Int} (n : Int), P w F g up ca → WfUp up → ca.length = up.length → up.length ≤ 256 →
    Calls Try.prog 19 #[.pointer (some ⟨g, 0, none⟩), .int .i64 n] w fun e w' => e = .returned (.int .i64 (if isB up n = true then up.getD n.toNat 0 else -1)) ∧ ∃ q, w' = w.drewN q
  siz : ∀ {w : World} {F : Nat → Prop} {g : Nat} {up ca : List Int}, P w F g up ca → WfUp up → ca.length = up.length → up.length ≤ 256 →
    Calls Try.prog 14 #[.pointer (some ⟨g, 0, none⟩)] w fun e w' => e = .returned (.int .i64 (up.length : Int)) ∧ ∃ q, w' = w.drewN q
  bel : ∀ {w : World} {F : Nat → Prop} {g : Nat} {up ca : List Int} (n : Int), P w F g up ca → WfUp up → ca.length = up.length → up.length ≤ 256 →
    Calls Try.prog 16 #[.pointer (some ⟨g, 0, none⟩), .int .i64 n] w fun e w' => ∃ V F', e = .returned V ∧ RecW w' w.heap.size 3 1 V (nums1 (belL up n up.length)) ∧ P w' F' g up ca ∧ Step F F' w w' ∧ ∀ k, V.ownBlock = some k → ¬ F' k
/-- A tree whose memory is all behind a world, with at most 256 nodes. -/
structure TreS (P : TP) (w0 w : World) (F : Nat → Prop) (g : Nat) (up ca : List Int) : Prop where
  p : P w F g up ca
  wf : WfUp up
  cl : ca.length = up.length
  ul : up.length ≤ 256
  to : Below w0.heap.size w0 w
  hi : ∀ k, F k → w0.heap.size ≤ k
/-- The same, of some blocks. -/
def Tre (P : TP) (w0 w : World) (g : Nat) (up ca : List Int) : Prop := ∃ F, TreS P w0 w F g up ca
theorem wf_one : WfUp [-1] := ⟨by decide, rfl, fun k h0 h1 => by simp at h1; omega⟩
section
variable {P : TP} {w0 w w' : World} {F : Nat → Prop} {g : Nat} {up ca : List Int}
theorem TreS.step (h : TreS P w0 w F g up ca) {F' : Nat → Prop} {up' ca' : List Int} (hp : P w' F' g up' ca') (hs : Step F F' w w') (hw : WfUp up') (hc : ca'.length = up'.length) (hu : up'.length ≤ 256) : TreS P w0 w' F' g up' ca' :=
  ⟨hp, hw, hc, hu, h.to.trans (hs.1.below (fun k hk => h.hi k hk) h.to.size), fun k hk => (hs.2 k hk).elim (h.hi k) (Nat.le_trans h.to.size)⟩
theorem addU_wf (hw : WfUp up) (n : Int) : WfUp (addU up n) := by
  unfold addU
  by_cases h : addE up n = 0
  · rw [if_pos h]
    unfold addE at h
    by_cases hi : isB up n = true
    · simp only [isB, Bool.and_eq_true, decide_eq_true_eq] at hi
      exact hw.add hi.1 hi.2
    · rw [if_neg hi] at h; cases h
  · rw [if_neg h]; exact hw
theorem addU_len (hc : ca.length = up.length) (n : Int) : (addC up ca n).length = (addU up n).length := by
  unfold addU addC
  split <;> simp [hc]
theorem addU_le (hu : up.length ≤ 256) (n : Int) : (addU up n).length ≤ 256 := by
  unfold addU
  by_cases h : addE up n = 0
  · rw [if_pos h, List.length_append, List.length_singleton]
    unfold addE at h
    by_cases hi : isB up n = true
    · rw [if_pos hi] at h
      by_cases hb : 256 ≤ up.length
      · rw [if_pos hb] at h; cases h
      · omega
    · rw [if_neg hi] at h; cases h
  · rw [if_neg h]; exact hu
variable (T : TreF P)
include T
theorem tre_drewN (h : Tre P w0 w g up ca) (q : Nat) : Tre P w0 (w.drewN q) g up ca := by
  obtain ⟨F, h⟩ := h
  exact ⟨F, T.fr h.p (fun _ _ => rfl) (Nat.le_refl _), h.wf, h.cl, h.ul, below_drewN h.to q, h.hi⟩
theorem tre_new (w0 : World) {w : World} (hb : Below w0.heap.size w0 w) : Calls Try.prog 8 #[] w fun e w' => ∃ g, e = .returned (.pointer (some ⟨g, 0, none⟩)) ∧ Tre P w0 w' g [-1] [0] :=
  (T.new w).mono fun e w' h => by
    obtain ⟨g, F, he, hp, hb', hf⟩ := h
    exact ⟨g, he, F, hp, wf_one, rfl, by decide, hb.trans (hb'.mono hb.size), fun k hk => Nat.le_trans hb.size (hf k hk)⟩
theorem tre_add (h : Tre P w0 w g up ca) (n : Int) : Calls Try.prog 10 #[.pointer (some ⟨g, 0, none⟩), .int .i64 n] w fun e w' => e = .returned (.tuple #[.int .i64 (addX up n), .int .i64 (addE up n)]) ∧ Tre P w0 w' g (addU up n) (addC up ca n) := by
  obtain ⟨F, h⟩ := h
  refine (T.add n h.p h.wf h.cl h.ul).mono fun e w' hh => ?_
  obtain ⟨he, F', hp, hs⟩ := hh
  exact ⟨he, F', h.step hp hs (addU_wf h.wf n) (addU_len h.cl n) (addU_le h.ul n)⟩
theorem tre_can (h : Tre P w0 w g up ca) (n cause : Int) : Calls Try.prog 12 #[.pointer (some ⟨g, 0, none⟩), .int .i64 n, .int .i64 cause] w fun e w' => e = .returned (.tuple #[.int .i64 (if canE up n cause = 0 then (canN up ca n up.length : Int) else 0), .int .i64 (canE up n cause)]) ∧ Tre P w0 w' g up (if canE up n cause = 0 then canC up ca n cause up.length else ca) := by
  obtain ⟨F, h⟩ := h
  refine (T.can n cause h.p h.wf h.cl h.ul).mono fun e w' hh => ?_
  obtain ⟨he, F', hp, hs⟩ := hh
  exact ⟨he, F', h.step hp hs h.wf (by split <;> simp [canC_length, h.cl]) h.ul⟩
theorem tre_cau (h : Tre P w0 w g up ca) (n : Int) : Calls Try.prog 18 #[.pointer (some ⟨g, 0, none⟩), .int .i64 n] w fun e w' => e = .returned (.int .i64 (if isB up n = true then ca.getD n.toNat 0 else 0)) ∧ Tre P w0 w' g up ca := by
  obtain ⟨F, h⟩ := id h
  refine (T.cau n h.p h.wf h.cl h.ul).mono fun e w' hh => ?_
  obtain ⟨he, q, rfl⟩ := hh
  exact ⟨he, tre_drewN T ⟨F, h⟩ q⟩
theorem tre_par (h : Tre P w0 w g up ca) (n : Int) : Calls Try.prog 19 #[.pointer (some ⟨g, 0, none⟩), .int .i64 n] w fun e w' => e = .returned (.int .i64 (if isB up n = true then up.getD n.toNat 0 else -1)) ∧ Tre P w0 w' g up ca := by
  obtain ⟨F, h⟩ := id h
  refine (T.par n h.p h.wf h.cl h.ul).mono fun e w' hh => ?_
  obtain ⟨he, q, rfl⟩ := hh
  exact ⟨he, tre_drewN T ⟨F, h⟩ q⟩
theorem tre_siz (h : Tre P w0 w g up ca) : Calls Try.prog 14 #[.pointer (some ⟨g, 0, none⟩)] w fun e w' => e = .returned (.int .i64 (up.length : Int)) ∧ Tre P w0 w' g up ca := by
  obtain ⟨F, h⟩ := id h
  refine (T.siz h.p h.wf h.cl h.ul).mono fun e w' hh => ?_
  obtain ⟨he, q, rfl⟩ := hh
  exact ⟨he, tre_drewN T ⟨F, h⟩ q⟩
/-- The number of those below alone. -/
theorem tre_bel (h : Tre P w0 w g up ca) (n : Int) : Calls Try.prog 16 #[.pointer (some ⟨g, 0, none⟩), .int .i64 n] w fun e w' => ∃ A c, e = .returned (.slice A (belL up n up.length).length c) ∧ Tre P w0 w' g up ca := by
  obtain ⟨F, h⟩ := h
  refine (T.bel n h.p h.wf h.cl h.ul).mono fun e w' hh => ?_
  obtain ⟨V, F', he, hr, hp, hs, _⟩ := hh
  obtain ⟨A, c, hV, -⟩ := hr.slice
  rw [nums1_length] at hV
  subst hV
  exact ⟨A, c, he, F', h.step hp hs h.wf h.cl h.ul⟩
end
end Go.Proofs.Ytcgjpmokhpcnnaa
