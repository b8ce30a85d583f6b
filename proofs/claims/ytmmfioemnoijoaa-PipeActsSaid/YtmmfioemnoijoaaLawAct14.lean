/- PipeActs: the walk. -/
import Derived.Test.YtmmfioemnoijoaaSw14
import Derived.Test.YtmmfioemnoijoaaSwTail14M
import Derived.Test.YtmmfioemnoijoaaSwTail14N
namespace Go.Proofs.Ytmmfioemnoijoaa
open Go Go.RowKit
set_option linter.unusedVariables false

theorem both_start {w0 w : World} {g k : Nat} (h : Pip w0 w [] g k [] 0 false) : Both14 w0 (w.alloc (.cells #[.slice none 0 0, .int .i64 (k : Int), .bool false, .int .i64 0] 31)) [] g w.heap.size k [] 0 false [] 0 false := by
  have ht := h.to
  obtain ⟨F, h1, h2, h3⟩ := h
  have hb : Below w.heap.size w (w.alloc (.cells #[.slice none 0 0, .int .i64 (k : Int), .bool false, .int .i64 0] 31)) := (Below.refl _ _).alloc (Nat.le_refl _) _
  refine ⟨F, fun b => b = w.heap.size, h1.below hb, ⟨none, 0, fun b hb => ?_, rfl, (fun a ha => nomatch ha), heap_alloc_new w _, ReadR.nil_ _ _ _ _, Nat.le_refl _, Nat.zero_le _, fun _ => rfl⟩, fun b hf hd => ?_, h2.trans (hb.mono h2.size), fun c hc => nomatch hc⟩
  · subst hb
    exact ⟨ht.size, by simp⟩
  · subst hd
    have := (h1.low hf).2
    omega
set_option maxHeartbeats 8000000 in
set_option maxRecDepth 40000 in
theorem act14_many (room : Int) (A : Option Addr) (n c : Nat) (w : World) (hn : 40 < n) :
    Calls Try.prog 3 #[.int .i64 room, .slice A n c] w fun e w' => e = .returned (.bool true) ∧ Below w.heap.size w w' := by
  have hd : decide ((40 : Int) < (n : Int)) = true := by simp; omega
  have HA := Lib.hid fun w => awake14_any w
  clear hn
  go_enter Try.func3, Try.ntmps3
  go_wp2_with fail
  (with_reducible refine (HA.out _).mono ?_); rintro e w1 ⟨rfl, hb1⟩
  have H1 := Lib.hid hb1; clear hb1
  go_wp2_with fail
  (with_reducible refine (HA.out _).mono ?_); rintro e w2 ⟨rfl, hb2⟩
  have H2 := Lib.hid (H1.out.trans (hb2.mono H1.out.size)); clear hb2
  go_wp2_with fail
  go_ret
  exact ⟨rfl, H2.out⟩
set_option maxHeartbeats 8000000 in
set_option maxRecDepth 40000 in
theorem act14_bad (room : Int) (A : Option Addr) (n c : Nat) (w : World) (hn : n ≤ 40) (hr : room < 0 ∨ 64 < room) :
    Calls Try.prog 3 #[.int .i64 room, .slice A n c] w fun e w' => e = .returned (.bool true) ∧ Below w.heap.size w w' := by
  have hd : decide ((40 : Int) < (n : Int)) = false := by simp; omega
  have HA := Lib.hid fun w => awake14_any w
  have HN := Lib.hid fun w => new_no room hr w
  clear hn
  rcases hr with hr | hr
  · have d1 : decide (room < 0) = true := by simpa using hr
    go_enter Try.func3, Try.ntmps3
    go_wp2_with fail
    (with_reducible refine (HA.out _).mono ?_); rintro e w1 ⟨rfl, hb1⟩
    have H1 := Lib.hid hb1; clear hb1
    go_wp2_with fail
    (with_reducible refine (HN.out _).mono ?_); rintro e w2 ⟨rfl, rfl⟩
    go_wp2_with fail
    go_ret
    exact ⟨rfl, H1.out⟩
  · have d1 : decide (room < 0) = false := by simp; omega
    have d2 : decide (64 < room) = true := by simpa using hr
    go_enter Try.func3, Try.ntmps3
    go_wp2_with fail
    (with_reducible refine (HA.out _).mono ?_); rintro e w1 ⟨rfl, hb1⟩
    have H1 := Lib.hid hb1; clear hb1
    go_wp2_with fail
    (with_reducible refine (HN.out _).mono ?_); rintro e w2 ⟨rfl, rfl⟩
    go_wp2_with fail
    go_ret
    exact ⟨rfl, H1.out⟩
set_option maxHeartbeats 16000000 in
set_option maxRecDepth 40000 in
theorem act14_good (k : Nat) (A : Option Addr) (n c : Nat) (xs : List Act14) (W : World) (hn : n ≤ 40) (hk : k ≤ 64) (hr : RowA14 W A n xs) :
    Calls Try.prog 3 #[.int .i64 (k : Int), .slice A n c] W fun e w' => e = .returned (.bool true) ∧ Below W.heap.size W w' := by
  have hd : decide ((40 : Int) < (n : Int)) = false := by simp; omega
  have d1 : decide ((k : Int) < 0) = false := by simp
  have d2 : decide ((64 : Int) < (k : Int)) = false := by simp; omega
  have HA := Lib.hid fun w => awake14_any w
  have HN := Lib.hid fun w (hb : Below W.heap.size W w) => pNew W w k hk hb
  have HR := Lib.hid hr
  have HL := Lib.hid (show xs.length = n by have := hr.1.1.1; simpa using this)
  have hac := act_cells
  clear hr
  go_enter Try.func3, Try.ntmps3
  go_wp2_with fail
  (with_reducible refine (HA.out _).mono ?_); rintro e w1 ⟨rfl, hb1⟩
  have H1 := Lib.hid hb1; clear hb1
  go_wp2_with fail
  refine (HN.out _ H1.out).mono ?_; rintro e w2 ⟨g, rfl, hp⟩
  have hb0 := both_start hp
  obtain ⟨w3, hw3⟩ : ∃ w3, w3 = w2.alloc (.cells #[.slice none 0 0, .int .i64 (k : Int), .bool false, .int .i64 0] 31) := ⟨_, rfl⟩
  obtain ⟨r, hr⟩ : ∃ r, r = w2.heap.size := ⟨_, rfl⟩
  rw [← hw3, ← hr] at hb0
  have HB0 := Lib.hid hb0
  have HW3 := Lib.hid hw3
  have HRR := Lib.hid hr
  clear hp hb0 hw3 hr
  go_wp2_with fail
  rw [← HW3.out, ← HRR.out]
  clear d1 d2
  go_loopg [8] n (fun gk v8 wr => ∃ (i : Nat) (L : List (Int × It)) (s : Int) (cl : Bool), i ≤ n ∧ gk = n - i ∧ v8 = .int .i64 (i : Int) ∧ Hid (Both14 W wr [] g r k L s cl L s cl) ∧ Hid (OkL W i L s))
  case atStart => exact ⟨0, [], 0, false, by omega, by omega, rfl, HB0, Lib.hid ⟨Int.le_refl _, Int.le_refl _, fun o ho => by cases ho⟩⟩
  case round =>
    clear HB0
    obtain ⟨i, L, s, cl, hi, hgk, rfl, HB, HO⟩ := hrel
    by_cases hlt : i < n
    · obtain ⟨b, o, rfl, -, hbl, hc⟩ := HR.out.1.2 (by omega)
      obtain ⟨a, ha⟩ : ∃ a, xs[i]? = some a := ⟨_, List.getElem?_eq_getElem (by rw [HL.out]; exact hlt)⟩
      have hhx := HR.out.2 a (List.mem_of_getElem? ha)
      obtain ⟨kd, who, x⟩ := a
      have hc' := fun j v hv => (HB.out.to.cell (p := ⟨b, o + i * 9 + j, none⟩) hbl).trans (hc i (Act14.cells ⟨kd, who, x⟩) (by simp [ha]) j v hv)
      have e0 := hc' 0 _ rfl
      have e1 := hc' 1 _ rfl
      have e2 := hc' 2 _ rfl
      have e3 := hc' 3 _ rfl
      have e4 := hc' 4 _ rfl
      have e5 := hc' 5 _ rfl
      have e6 := hc' 6 _ rfl
      have e7 := hc' 7 _ rfl
      have e8 := hc' 8 _ rfl
      simp only [Nat.add_zero] at e0
      have HHX := Lib.hid hhx
      have HGK := Lib.hid hgk
      clear hc hc' ha hhx hgk
      by_cases h10 : 10 < x.hm
      · have d10 : decide ((10 : Int) < (x.hm : Int)) = true := by simp; omega
        have HT := Lib.hid (HB.out.alloc (Act14.cells ⟨kd, who, x⟩).toArray 38).to
        go_wp2_with fail
        go_ret
        exact ⟨rfl, HT.out⟩
      · have d10 : decide ((10 : Int) < (x.hm : Int)) = false := by simp; omega
        have HBA := Lib.hid (HB.out.alloc (Act14.cells ⟨kd, who, x⟩).toArray 38)
        obtain ⟨wa, hwa⟩ : ∃ wa, wa = wr.alloc (.cells (Act14.cells ⟨kd, who, x⟩).toArray 38) := ⟨_, rfl⟩
        obtain ⟨ga, hga⟩ : ∃ ga, ga = wr.heap.size := ⟨_, rfl⟩
        rw [← hwa, ← hga] at HBA
        have q0 := (act_facts (kd := kd) (who := who) (x := x) (HBA.out.at List.mem_cons_self)).1
        unfold Act14.cells It.cells at hwa
        have HWA := Lib.hid hwa
        have HGA := Lib.hid hga
        have HX := Lib.hid (And.intro HHX.out (show x.hm ≤ 10 by omega))
        clear hwa hga h10
        go_upto_block 2 with fail
        rw [← HWA.out, ← HGA.out]
        clear e0 e1 e2 e3 e4 e5 e6 e7 e8 HWA HGA HB d10
        refine sw14_all (k := k) (i := i) hk (by omega) HBA HO HX (Lib.hid ?_)
        intro x11 x12 x13 x14 x15 x16 x17 x18 x72 x73 x74 x75 x76 x77 x78 x79 x80 x81 x82 x83 x84 x85 x86 x87 x88 x89 x90 x91 x92 x93 x94 x95 x96 x97 x98 x99 x100 x101 x102 x103 x104 x105 x106 x107 x108 x109 x110 x111 x112 x113 x114 x115 x116 x117 x118 x119 x120 x121 x122 x123 x124 x125 x126 x127 x128 x129 x130 x131 x132 x133 x134 x135 x136 x137 w4 hrel
        obtain ⟨L', s', cl', HB', HO'⟩ := hrel
        clear HBA HO HX q0
        simp only [Exit.then]
        go_step
        rcases Nat.eq_zero_or_pos L'.length with h0 | h0
        · refine sw14_tail_none (k := k) (i := i + 1) hk (by omega) HB' HO' (Lib.hid ?_) h0
          intro y4 y19 y20 y138 y139 y140 y141 y142 y143 y144 y145 y146 y147 y148 y149 y150 y151 y152 y153 y154 y155 y156 y157 y158 y159 y160 y161 y162 y163 y164 y165 y166 y167 y168 y169 y170 y171 y172 y173 y174 y175 y176 y177 y178 y179 y180 y181 y182 y183 y184 y185 y186 y187 y188 y189 y190 y191 y192 y193 y194 y195 y196 y197 y198 y199 y200 y201 y202 y203 y204 y205 y206 y207 y208 y209 y210 y211 y212 y213 y214 y215 y216 y217 w5 hb5
          have HB5 := Lib.hid hb5
          clear hb5 HB'
          simp only
          go_wp2_with fail
          go_roundg (n - (i + 1))
          case measure => have := HGK.out; omega
          case rel => exact ⟨i + 1, L', s', cl', by omega, rfl, by go_num, HB5, HO'⟩
        · refine sw14_tail_more (k := k) (i := i + 1) hk (by omega) HB' HO' (Lib.hid ?_) h0
          intro y4 y19 y20 y138 y139 y140 y141 y142 y143 y144 y145 y146 y147 y148 y149 y150 y151 y152 y153 y154 y155 y156 y157 y158 y159 y160 y161 y162 y163 y164 y165 y166 y167 y168 y169 y170 y171 y172 y173 y174 y175 y176 y177 y178 y179 y180 y181 y182 y183 y184 y185 y186 y187 y188 y189 y190 y191 y192 y193 y194 y195 y196 y197 y198 y199 y200 y201 y202 y203 y204 y205 y206 y207 y208 y209 y210 y211 y212 y213 y214 y215 y216 y217 w5 hb5
          have HB5 := Lib.hid hb5
          clear hb5 HB'
          simp only
          go_wp2_with fail
          go_roundg (n - (i + 1))
          case measure => have := HGK.out; omega
          case rel => exact ⟨i + 1, L', s', cl', by omega, rfl, by go_num, HB5, HO'⟩
    · go_wp2_with fail
      go_ret
      exact ⟨rfl, HB.out.to⟩
theorem act14W (room : Int) (A : Option Addr) (n c : Nat) (xs : List Act14) (W : World) (hr : RowA14 W A n xs) :
    Calls Try.prog 3 #[.int .i64 room, .slice A n c] W fun e w' => e = .returned (.bool true) ∧ Below W.heap.size W w' := by
  by_cases hl : 40 < n
  · exact act14_many room A n c W hl
  · by_cases hno : room < 0 ∨ 64 < room
    · exact act14_bad room A n c W (by omega) hno
    · obtain ⟨k, rfl⟩ := Int.eq_ofNat_of_zero_le (show 0 ≤ room by omega)
      exact act14_good k A n c xs W (by omega) (by omega) hr
end Go.Proofs.Ytmmfioemnoijoaa
