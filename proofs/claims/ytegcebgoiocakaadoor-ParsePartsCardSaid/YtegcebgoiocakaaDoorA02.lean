/- string(b), of octets that read as a list. -/
import Derived.Test.YtegcebgoiocakaaDoorA01
import Derived.WalkSpells
import Derived.Maps.AppendAt
import Derived.Laws.OwnMore
import Derived.Tactics
import Derived.Laws.IdiomStrings
import Derived.Lib.Hide
import Derived.Laws.BytesArg
import Derived.IntWalk
import Derived.Handy
namespace Go.Proofs.YtegcebgoiocakaaDoor
open Go Go.RowKit

/-- string(b), of octets that read as a list. -/
theorem strRow (w : World) (A : Option Addr) (n c : Nat) (xs : List Int) (h : RowI .u8 w A n xs) :
    (convert 42 9 (.slice A n c)).run Tryd.prog w = .ok (.string (strOfNums xs)) w := by
  rcases Nat.eq_zero_or_pos n with h0 | h0
  · subst h0
    have : xs = [] := List.eq_nil_of_length_eq_zero h.1
    subst this
    rcases A with _ | ⟨b, o, sp⟩
    · exact run_convert_bytes_nil w 42 5 Tryd.underlying42 Tryd.underlying5 0 c 9 Tryd.underlying9
    · rw [run_convert_bytes_string w _ _ _ _ _ _ Tryd.underlying42 Tryd.underlying5 Tryd.underlying9]
      exact run_bytesToString (P := Tryd.prog) w ⟨b, o, sp⟩ 0 c [] (by simpa using run_loadCells_list (P := Tryd.prog) w ⟨b, o, sp⟩ [] (fun j v hj => by simp at hj))
  · obtain ⟨b, o, rfl, _, hc⟩ := h.2 h0
    exact run_convert_bytes_arg (P := Tryd.prog) w 42 5 Tryd.underlying42 Tryd.underlying5 b o n c xs h.1 hc 9 Tryd.underlying9
end Go.Proofs.YtegcebgoiocakaaDoor
/- append onto a slice of the call's own, and what came in as such a list. -/
namespace Go.Proofs.YtegcebgoiocakaaDoor
open Go Go.RowKit
set_option maxRecDepth 20000

theorem info_u8 : (Tryd.prog.info? 5).map (fun i => (i.zero, i.size, i.bytes)) = some (some (.int .u8 0), 1, 1) := by kernel_rfl
theorem info_int : (Tryd.prog.info? 3).map (fun i => (i.zero, i.size, i.bytes)) = some (some (.int .i64 0), 1, 8) := by kernel_rfl

/-- The slice that the call owns reads as a list. -/
theorem row_of_own {k : IntKind} {w : World} {base : Nat} {e : TypeId} {v : Value} {n : Nat} {xs : List Int} (h : w.ownsRow base e 1 v n (xs.map (Value.int k))) :
    ∃ A c, v = .slice A n c ∧ RowI k w A n xs ∧ n ≤ c ∧ c ≤ maxLen := by
  obtain ⟨hl, h⟩ := h
  have hl' : xs.length = n := by simpa using hl
  rcases h with ⟨rfl, rfl⟩ | ⟨g, cap, cur, rfl, _, hg, hnc, hcm, hcs, ht⟩
  · have : xs = [] := List.eq_nil_of_length_eq_zero hl'
    subst this
    exact ⟨none, 0, rfl, RowI.nil_, Nat.le_refl _, Nat.zero_le _⟩
  · refine ⟨_, cap, rfl, ⟨hl', fun _ => ⟨g, 0, rfl, ?_, fun j hj => ?_⟩⟩, hnc, hcm⟩
    · exact (Array.getElem?_eq_some_iff.1 hg).1
    · rw [Nat.zero_add, cell_of_row w g j cur e (0, 0) hg]
      have h1 : (cur.toList.take (n * 1))[j]? = (xs.map (Value.int k))[j]? := by rw [ht]
      rw [List.getElem?_take_of_lt (by omega), Array.getElem?_toList] at h1
      rw [h1, List.getElem?_map]
      have hj' : j < xs.length := by omega
      simp [List.getElem?_eq_getElem hj', List.getD]

theorem app_run (k : IntKind) (t e : TypeId) (bytes : Nat) (ht : Tryd.prog.underlying t = some (.slice e)) (hinfo : (Tryd.prog.info? e).map (fun i => (i.zero, i.size, i.bytes)) = some (some (.int k 0), 1, bytes))
    (w : World) (base : Nat) (v : Value) (n : Nat) (xs : List Int) (hown : w.ownsRow base e 1 v n (xs.map (Value.int k)))
    (A : Option Addr) (m c : Nat) (ys : List Int) (hr : RowI k w A m ys) (hnil : A = none → m = 0 ∧ c = 0) (hsz : (n + m) * bytes ≤ 140737488355328) (h63 : n + m ≤ maxLen) (hbase : base ≤ w.heap.size) :
    ∃ v' w', (Builtin.append_ #[t, t] t #[v, .slice A m c]).run Tryd.prog w = .ok v' w' ∧ w'.ownsRow base e 1 v' (n + m) ((xs ++ ys).map (Value.int k)) ∧ w.grownBy w' v.ownBlock := by
  obtain ⟨i0, hi, hz0, hz1, hz2⟩ := info_parts hinfo
  rcases A with _ | ad
  · obtain ⟨rfl, rfl⟩ := hnil rfl
    have hy : ys = [] := List.eq_nil_of_length_eq_zero hr.1
    subst hy
    exact ⟨v, w, run_append_owned_none (P := Tryd.prog) w base t t e i0 1 ht hi v n _ hown, by simpa using hown, World.grownBy.refl w _⟩
  · have hcells : ∀ j u, (ys.map (Value.int k))[j]? = some u → w.cell? (ad.add j) = some u := by
      intro j u hu
      have hj : j < ys.length := by
        rcases Nat.lt_or_ge j ys.length with h | h
        · exact h
        · rw [List.getElem?_eq_none (by simpa using h)] at hu; cases hu
      obtain ⟨b, o, hA, _, hc⟩ := hr.2 (by have := hr.1; omega)
      injection hA with hA
      subst hA
      have hadd : (⟨b, o, none⟩ : Addr).add j = ⟨b, o + j, none⟩ := by unfold Addr.add; split <;> simp_all
      rw [hadd, hc j (by have := hr.1; omega)]
      rw [List.getElem?_map, List.getElem?_eq_getElem hj] at hu
      simp [List.getD, List.getElem?_eq_getElem hj]
      simpa using hu
    obtain ⟨v', w', h1, h2, h3, _⟩ := run_append_own (P := Tryd.prog) w base t t e i0 (.int k 0) 1 bytes ht hi hz0 hz1 hz2 rfl (by decide) v n _ hown ad m c (ys.map (Value.int k)) (by simp [hr.1]) hcells (by intro u hu; obtain ⟨x, _, rfl⟩ := List.mem_map.1 hu; rfl) h63 hsz hbase
    exact ⟨v', w', h1, by rw [List.map_append]; exact h2, h3⟩

/-- What the law's shell says of a slice that came in, in my words. -/
theorem rowI_of_row {k : IntKind} {w : World} {a : Option Addr} {len cap : Nat} {zs : List Int}
    (h : (a = none ∧ len = 0 ∧ cap = 0 ∧ zs = []) ∨
      ∃ x, a = some x ∧ len ≤ cap ∧ cap ≤ maxLen ∧ zs.length = cap ∧ (∀ i, i < zs.length → w.cell? (x.add i) = some (.int k (zs.getD i 0))) ∧ ∀ n ∈ zs, (Lit.int k n).wf = true) :
    RowI k w a len (zs.take len) ∧ len ≤ cap ∧ cap ≤ maxLen ∧ (a = none → len = 0 ∧ cap = 0) ∧ ∀ c ∈ zs.take len, (Lit.int k c).wf = true := by
  rcases h with ⟨rfl, rfl, rfl, rfl⟩ | ⟨x, rfl, hl, hm, hz, hc, hw⟩
  · exact ⟨RowI.nil_, Nat.le_refl _, Nat.zero_le _, fun _ => ⟨rfl, rfl⟩, by simp⟩
  · refine ⟨⟨by rw [List.length_take]; omega, fun hn => ?_⟩, hl, hm, fun h => (by cases h), fun c hc => hw c (List.mem_of_mem_take hc)⟩
    obtain ⟨b, off, spot⟩ := x
    have h0 := hc 0 (by omega)
    have hspot : spot = none := by simpa [Addr.add] using World.cell?_spot h0
    subst hspot
    refine ⟨b, off, rfl, ?_, fun j hj => ?_⟩
    · exact World.block_lt_of_cell? w (⟨b, off, none⟩ : Addr) (by simpa [Addr.add] using h0)
    · have hadd : (⟨b, off, none⟩ : Addr).add j = ⟨b, off + j, none⟩ := by unfold Addr.add; split <;> simp_all
      have := hc j (by omega)
      rw [hadd] at this
      rw [this]
      simp [List.getD, hj]
theorem byte_of_wf {c : Int} (h : (Lit.int .u8 c).wf = true) : 0 ≤ c ∧ c < 256 := by
  simp [Lit.wf, IntKind.min, IntKind.max, IntKind.signed, IntKind.bits] at h
  exact ⟨by omega, by omega⟩

/-- append, by what its run is known to give. -/
theorem wpList_append_run {P : Program} {w : World} {ops : Array Oper} {rest : List Oper} {o : Oper} {a : Act} {Q : Exit → Act → World → Prop} (hgd : o.guard = none) (s x : Operand) (t : TypeId)
    (ho : o.op = .call { callee := .builtin .append, args := #[s, x], argTypes := #[t, t] }) (hty : o.type = t)
    (v y v' : Value) (w' : World) (hs : a.eval s = v) (hx : a.eval x = y) (hrun : (Builtin.append_ #[t, t] t #[v, y]).run P w = .ok v' w')
    (h : wpList P ops Q rest (a.put o.dst v') w') : wpList P ops Q (o :: rest) a w := by
  subst hty
  refine wpList_plain hgd fun K hK => ?_
  unfold Oper.wp
  simp [execOp, ho, resolve, invoke, builtin, hs, hx, hrun, Result.andThen]
  exact hK _ _ h
end Go.Proofs.YtegcebgoiocakaaDoor
/- A string's octets as numbers; []byte(s). -/
namespace Go.Proofs.YtegcebgoiocakaaDoor
open Go Go.RowKit

/-- A string's octets as numbers. -/
def nums (s : ByteArray) : List Int := s.data.toList.map fun c => (c.toNat : Int)
theorem nums_length (s : ByteArray) : (nums s).length = s.size := by simp [nums]
theorem nums_byte (s : ByteArray) : ∀ c ∈ nums s, 0 ≤ c ∧ c < 256 := by
  intro c hc
  obtain ⟨b, _, rfl⟩ := List.mem_map.1 hc
  have := b.toNat_lt
  omega
theorem nums_get (s : ByteArray) (k : Nat) (h : k < s.size) (h' : k < (nums s).length) : (nums s)[k] = (s[k].toNat : Int) := by
  simp [nums]; rfl
theorem strOfNums_nums (s : ByteArray) : strOfNums (nums s) = s := by
  apply ByteArray.ext
  apply Array.toList_inj.1
  rw [strOfNums_data]
  simp [nums, Function.comp_def]
theorem nums_strOfNums (l : List Int) (h : ∀ c ∈ l, 0 ≤ c ∧ c < 256) : nums (strOfNums l) = l := by
  unfold nums
  rw [strOfNums_data, List.map_map]
  conv => rhs; rw [← List.map_id l]
  apply List.map_congr_left
  intro c hc
  have := h c hc
  simp
  omega

theorem idx_at (s : ByteArray) (k : Nat) (h : k < s.size) (w : World) : (Instr.index 9 (.string s) (.int .i64 (k : Int))).run Tryd.prog w = .ok (.int .u8 ((nums s).getD k 0)) w := by
  rw [run_index_string w 9 s .i64 k Tryd.underlying9, dif_pos ⟨by omega, by omega⟩]
  have h' : k < (nums s).length := by rw [nums_length]; exact h
  rw [show (nums s).getD k 0 = (s[k].toNat : Int) by rw [← nums_get s k h h']; simp [List.getD, h']]
  simp
theorem nums_extract_to (s : ByteArray) (p : Nat) : nums (s.extract p s.size) = (nums s).drop p := by
  unfold nums
  rw [← List.map_drop]
  congr 1
  rw [ByteArray.data_extract, Array.toList_extract]
  show (s.data.toList.drop p).take (s.size - p) = _
  exact List.take_of_length_le (by rw [List.length_drop, Array.length_toList]; exact Nat.le_refl _)
/-- []byte(s). -/
theorem bytes_run (s : ByteArray) (w : World) (hs : s.size ≤ maxLen) : ∃ A c w', (convert 9 42 (.string s)).run Tryd.prog w = .ok (.slice A s.size c) w' ∧ RowI .u8 w' A s.size (nums s) ∧ s.size ≤ c ∧ c ≤ maxLen ∧ Below w.heap.size w w' := by
  refine ⟨_, _, _, run_bytes_of_string w _ _ _ s Tryd.underlying9 Tryd.underlying42 Tryd.underlying5, ⟨nums_length s, fun h0 => ⟨_, _, rfl, ?_, fun j hj => ?_⟩⟩, ?_, ?_, ?_⟩
  · show w.heap.size < (w.heap.push _).size
    rw [Array.size_push]; omega
  · rw [Nat.zero_add]
    refine (World.cell?_alloc_mark w.drew _ _ _ j).trans ?_
    unfold bytesRow
    rw [Array.getElem?_append_left (by rw [Array.size_map]; exact hj), Array.getElem?_map]
    have hj' : j < s.data.size := hj
    have hn : j < (nums s).length := by rw [nums_length]; exact hj
    rw [Array.getElem?_eq_getElem hj']
    have e := nums_get s j hj hn
    rw [List.getD, List.getElem?_eq_getElem hn, Option.getD_some, e]
    rfl
  · exact grownCap_ge w s.size 0 _
  · exact grownCap_le_maxLen w s.size 0 _ hs
  · exact ((Below.refl _ _).drew).alloc (Nat.le_refl _) _
end Go.Proofs.YtegcebgoiocakaaDoor
/- Words on memory: what hangs on no type, out of stage 1's texts. (Stage 8's seat had KitR8's text in this one's place.) -/
