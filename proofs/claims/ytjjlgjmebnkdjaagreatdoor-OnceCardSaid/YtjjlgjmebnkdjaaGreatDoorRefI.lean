/-
  The document's reader: atom.
-/
import Derived.Test.YtjjlgjmebnkdjaaGreatDoorRefH
namespace Go.Proofs.YtjjlgjmebnkdjaaGreatDoor
open Go Go.Proofs Go.RowKit Skein

/- Digits. -/
def valL (l : List UInt8) : Nat := l.foldl (fun n c => n * 10 + (c.toNat - 48)) 0
theorem val_valL (t : ByteArray) : val t = valL t.data.toList := rfl
theorem valL_snoc (l : List UInt8) (c : UInt8) : valL (l ++ [c]) = valL l * 10 + (c.toNat - 48) := by simp [valL]
theorem valL_aux : ∀ (l : List UInt8) (a : Nat), (∀ c ∈ l, isDig c = true) → l.foldl (fun n c => n * 10 + (c.toNat - 48)) a < (a + 1) * 10 ^ l.length := by
  intro l
  induction l with
  | nil => intro a _; simp
  | cons c l ih =>
    intro a h
    have h1 := ih (a * 10 + (c.toNat - 48)) fun x hx => h x (by simp [hx])
    have h2 := h c (by simp)
    have h3 : c.toNat ≤ 57 := by
      simp only [isDig, Bool.and_eq_true, decide_eq_true_eq, UInt8.le_iff_toNat_le] at h2
      exact h2.2
    have h4 : (a * 10 + (c.toNat - 48) + 1) * 10 ^ l.length ≤ ((a + 1) * 10) * 10 ^ l.length := Nat.mul_le_mul_right _ (by omega)
    rw [List.foldl_cons, List.length_cons, Nat.pow_succ, Nat.mul_comm (10 ^ l.length) 10, ← Nat.mul_assoc]
    omega
theorem valL_lt (l : List UInt8) (h : ∀ c ∈ l, isDig c = true) : valL l < 10 ^ l.length := by
  have := valL_aux l 0 h; unfold valL; simpa using this
theorem int_eq {a b : Int} (h : a = b) : Value.int .i64 a = Value.int .i64 b := by rw [h]

theorem run_digits (s : ByteArray) (i : Nat) : ∀ j, i ≤ j → j < i + runLen s false i → ∃ h : j < s.size, isDig s[j] = true := by
  fun_induction runLen s false i with
  | case1 i h hf ih =>
    intro j hij hj
    by_cases e : j = i
    · subst e; exact ⟨h, by simpa [fits] using hf⟩
    · exact ih j (by omega) (by omega)
  | case2 i h hf => intro j hij hj; omega
  | case3 i h => intro j hij hj; omega

theorem num_text {s m} (h : Inv s m) (hk : m.tok.k = .num) : (∀ c ∈ m.tok.text.data.toList, isDig c = true) ∧ m.tok.text.size ≤ 9 := by
  obtain ⟨i, hi, e⟩ := h.ex
  rw [e] at hk ⊢
  unfold tok at hk ⊢
  generalize hk' : skip s i = k at *
  have hks : k ≤ s.size := by rw [← hk']; exact skip_le s i hi
  by_cases hlt : k < s.size
  · cases hd : isDig s[k]
    · exfalso
      unfold tokAt at hk
      rw [dif_pos hlt, if_neg (by simp [hd])] at hk
      repeat' split at hk
      all_goals cases hk
    · by_cases h9 : 9 < runLen s false k
      · rw [tokAt_dig_bad hlt hd h9] at hk; cases hk
      · rw [tokAt_dig hlt hd h9]
        have hr := runLen_le s false k hks
        refine ⟨fun c hc => ?_, by rw [ext_size s k _ hr]; omega⟩
        obtain ⟨j, hj, ej⟩ := List.mem_iff_getElem.1 hc
        have hsz : (s.extract k (k + runLen s false k)).data.toList.length = runLen s false k := by
          rw [Array.length_toList]; exact ext_size s k (runLen s false k) hr
        have hj' : j < runLen s false k := by rw [← hsz]; exact hj
        obtain ⟨h1, h2⟩ := run_digits s k (k + j) (by omega) (by omega)
        rw [← ej]
        have : (s.extract k (k + runLen s false k)).data.toList[j] = s[k + j] := by
          simp [ByteArray.getElem_eq_getElem_data]
        rw [this]; exact h2
  · unfold tokAt at hk
    rw [dif_neg hlt] at hk; cases hk

set_option maxRecDepth 100000 in
set_option maxHeartbeats 1000000 in
theorem atom_no {b s m w} (h : RS b s m w) (hbg0 : m.begins = false) :
    Calls Tryz.prog 167 #[.pointer (some ⟨b, 0, none⟩)] w fun e w' => ∃ v, e = .returned v ∧ (∃ a, v = .pointer (some a)) ∧ RS b s m.fail w' ∧ Kp b w w' := by
  obtain ⟨gv, pl, hB, ho, hp⟩ := h.blk
  obtain ⟨c0, c1, c2, c3, c4, c5, c6, c7, c8, c9, hf, hlt0⟩ := hB.cells
  have hbg : Hid (m.begins = false) := hbg0
  clear hbg0
  go_enter Tryz.func167, Tryz.ntmps167
  go_wp2_with fail
  refine (begins_rs (h.alloc _)).mono ?_
  rw [hbg.out]
  rintro e w1 ⟨rfl, h1, k1⟩
  have hx := k1.nodes w.heap.size _ 60 hlt0 (by decide) (alloc_at _ _ _ rfl)
  obtain ⟨x0, x1, x2, x3⟩ := cells4 hx
  have k1' : Kp b w w1 := ((Kp.refl b w).alloc (Nat.le_of_lt hlt0) _).trans k1
  clear c0 c1 c2 c3 c4 c5 c6 c7 c8 c9 hf ho hp hB k1 hx
  go_wp2_with fail
  refine (fails_rs h1).mono ?_
  rintro e w2 ⟨rfl, h2, k2⟩
  go_wp2_with fail
  go_ret
  exact ⟨_, rfl, ⟨_, rfl⟩, h2.alloc _, (k1'.trans k2).alloc (Nat.le_of_lt h2.lt) _⟩

set_option maxRecDepth 100000 in
set_option maxHeartbeats 4000000 in
theorem atom_num {b s m w} (h : RS b s m w) (hb : m.isBad = false) (hbg : m.begins = true) (hk : m.tok.k = .num) :
    Calls Tryz.prog 167 #[.pointer (some ⟨b, 0, none⟩)] w fun e w' => ∃ v, e = .returned v ∧ NodeAt b w' (.num (val m.tok.text)) v ∧ RS b s (m.adv s) w' ∧ Kp b w w' := by
  obtain ⟨gv, pl, hB, ho, hp⟩ := h.blk
  obtain ⟨c0, c1, c2, c3, c4, c5, c6, c7, c8, c9, hf, hlt0⟩ := hB.cells
  have HB : Hid (m.isBad = false) := hb
  have HBG : Hid (m.begins = true) := hbg
  clear hb hbg
  have hnt := num_text h.inv hk
  have HK : Hid ((m.tok.k == .num) = true) := by unfold Hid; rw [hk]; rfl
  clear hk
  go_enter Tryz.func167, Tryz.ntmps167
  go_wp2_with fail
  refine (begins_rs (h.alloc _)).mono ?_
  rw [HBG.out]
  rintro e w1 ⟨rfl, h1, k1⟩
  have hx := k1.nodes w.heap.size _ 60 hlt0 (by decide) (alloc_at _ _ _ rfl)
  have k1' : Kp b w w1 := ((Kp.refl b w).alloc (Nat.le_of_lt hlt0) _).trans k1
  clear c0 c1 c2 c3 c4 c5 c6 c7 c8 c9 hf ho hp hB k1
  go_wp2_with fail
  refine (next_rs h1 HB.out).mono ?_
  rintro e w2 ⟨rfl, h2, k2⟩
  have hx2 := k2.nodes _ _ 60 hlt0 (by decide) hx
  have k2' := k1'.trans k2
  clear k1' k2 hx h1
  obtain ⟨x0, x1, x2, x3⟩ := cells4 hx2
  rw [HK.out] at x2
  have hall := hnt.1
  have hsz := hnt.2
  have HALL : Hid (∀ c ∈ m.tok.text.data.toList, isDig c = true) := hall
  clear hnt hall
  go_wp2_with fail
  go_loop [5, 6] (fun v i => ∃ k : Nat, k ≤ m.tok.text.size ∧ i = .int .i64 k ∧ v = .int .i64 (valL (m.tok.text.data.toList.take k))) (fun _ i => m.tok.text.size - (intOf i).toNat)
  case atStart => exact ⟨0, Nat.zero_le _, rfl, rfl⟩
  case round =>
    obtain ⟨k, hk, rfl, rfl⟩ := hrel
    have hb1 : (valL (m.tok.text.data.toList.take k) : Int) < 1000000000 := by
      have h1 := valL_lt (m.tok.text.data.toList.take k) fun c hc => HALL.out c (List.mem_of_mem_take hc)
      have h2 : (m.tok.text.data.toList.take k).length ≤ 9 := by
        rw [List.length_take]; omega
      have h3 : 10 ^ (m.tok.text.data.toList.take k).length ≤ 10 ^ 9 := Nat.pow_le_pow_right (by omega) h2
      omega
    by_cases hlt : k < m.tok.text.size
    · have hd := HALL.out (m.tok.text[k]) (by rw [ByteArray.getElem_eq_getElem_data]; simp)
      have hd1 : 48 ≤ m.tok.text[k].toNat ∧ m.tok.text[k].toNat ≤ 57 := by
        simp only [isDig, Bool.and_eq_true, decide_eq_true_eq, UInt8.le_iff_toNat_le] at hd
        exact hd
      obtain ⟨hd2, hd3⟩ := hd1
      have HS : Hid (valL (m.tok.text.data.toList.take (k + 1)) = valL (m.tok.text.data.toList.take k) * 10 + (m.tok.text[k].toNat - 48)) := by
        unfold Hid
        rw [List.take_succ_eq_append_getElem (by simpa using hlt), valL_snoc]; rfl
      clear hd
      go_wp2_with fail
      exact ⟨⟨k + 1, by omega, by go_num, int_eq (by rw [HS.out]; omega)⟩, by simp [intOf]; omega⟩
    · go_wp2_with fail
      go_ret
      have e : val m.tok.text = valL (m.tok.text.data.toList.take k) := by
        rw [val_valL, List.take_of_length_le (by rw [Array.length_toList]; show m.tok.text.size ≤ k; omega)]
      rw [e]
      exact ⟨_, rfl, IsN.made _ _ _ _ _ h2.lt, h2.alloc _, k2'.alloc (Nat.le_of_lt h2.lt) _⟩

set_option maxRecDepth 100000 in
set_option maxHeartbeats 4000000 in
theorem atom_name {b s m w} (h : RS b s m w) (hb : m.isBad = false) (hbg : m.begins = true) (hk : m.tok.k = .name) :
    Calls Tryz.prog 167 #[.pointer (some ⟨b, 0, none⟩)] w fun e w' => ∃ v, e = .returned v ∧ NodeAt b w' (named m.tok (m.adv s)).1 v ∧ RS b s (named m.tok (m.adv s)).2 w' ∧ Kp b w w' := by
  obtain ⟨gv, pl, hB, ho, hp⟩ := h.blk
  obtain ⟨c0, c1, c2, c3, c4, c5, c6, c7, c8, c9, hf, hlt0⟩ := hB.cells
  have HB : Hid (m.isBad = false) := hb
  have HBG : Hid (m.begins = true) := hbg
  clear hb hbg
  have HK : Hid ((m.tok.k == .num) = false ∧ (m.tok.k == .name) = true) := by unfold Hid; rw [hk]; exact ⟨rfl, rfl⟩
  clear hk
  go_enter Tryz.func167, Tryz.ntmps167
  go_wp2_with fail
  refine (begins_rs (h.alloc _)).mono ?_
  rw [HBG.out]
  rintro e w1 ⟨rfl, h1, k1⟩
  have hx := k1.nodes w.heap.size _ 60 hlt0 (by decide) (alloc_at _ _ _ rfl)
  have k1' : Kp b w w1 := ((Kp.refl b w).alloc (Nat.le_of_lt hlt0) _).trans k1
  clear c0 c1 c2 c3 c4 c5 c6 c7 c8 c9 hf ho hp hB k1
  go_wp2_with fail
  refine (next_rs h1 HB.out).mono ?_
  rintro e w2 ⟨rfl, h2, k2⟩
  have hx2 := k2.nodes _ _ 60 hlt0 (by decide) hx
  have k2' := k1'.trans k2
  clear k1' k2 hx h1
  obtain ⟨x0, x1, x2, x3⟩ := cells4 hx2
  rw [HK.out.1] at x2
  rw [HK.out.2] at x3
  go_wp2_with fail
  refine (named_rs m.tok false true h2).mono ?_
  rintro e w3 ⟨v, rfl, hv, h3, k3⟩
  obtain ⟨pv, rfl⟩ := NodeAt.ptr _ _ hv
  go_wp2_with fail
  go_ret
  exact ⟨_, rfl, hv, h3, k2'.trans k3⟩

set_option maxRecDepth 100000 in
set_option maxHeartbeats 4000000 in
theorem atom_nil {b s m w} (h : RS b s m w) (hb : m.isBad = false) (hbg : m.begins = true) (hk1 : (m.tok.k == .num) = false) (hk2 : (m.tok.k == .name) = false) (ht : m.tok.text = ⟨#[91, 93]⟩) :
    Calls Tryz.prog 167 #[.pointer (some ⟨b, 0, none⟩)] w fun e w' => ∃ v, e = .returned v ∧ NodeAt b w' .nil v ∧ RS b s (m.adv s) w' ∧ Kp b w w' := by
  obtain ⟨gv, pl, hB, ho, hp⟩ := h.blk
  obtain ⟨c0, c1, c2, c3, c4, c5, c6, c7, c8, c9, hf, hlt0⟩ := hB.cells
  have HB : Hid (m.isBad = false) := hb
  have HBG : Hid (m.begins = true) := hbg
  clear hb hbg
  have HK : Hid ((m.tok.k == .num) = false ∧ (m.tok.k == .name) = false) := ⟨hk1, hk2⟩
  clear hk1 hk2
  have HT : Hid (m.tok.text = ⟨#[91, 93]⟩) := ht
  clear ht
  go_enter Tryz.func167, Tryz.ntmps167
  go_wp2_with fail
  refine (begins_rs (h.alloc _)).mono ?_
  rw [HBG.out]
  rintro e w1 ⟨rfl, h1, k1⟩
  have hx := k1.nodes w.heap.size _ 60 hlt0 (by decide) (alloc_at _ _ _ rfl)
  have k1' : Kp b w w1 := ((Kp.refl b w).alloc (Nat.le_of_lt hlt0) _).trans k1
  clear c0 c1 c2 c3 c4 c5 c6 c7 c8 c9 hf ho hp hB k1
  go_wp2_with fail
  refine (next_rs h1 HB.out).mono ?_
  rintro e w2 ⟨rfl, h2, k2⟩
  have hx2 := k2.nodes _ _ 60 hlt0 (by decide) hx
  have k2' := k1'.trans k2
  clear k1' k2 hx h1
  obtain ⟨x0, x1, x2, x3⟩ := cells4 hx2
  rw [HK.out.1] at x2
  rw [HK.out.2] at x3
  rw [HT.out] at x0
  go_wp2_with fail
  go_ret
  exact ⟨_, rfl, IsN.made _ _ _ _ _ h2.lt, h2.alloc _, k2'.alloc (Nat.le_of_lt h2.lt) _⟩

set_option maxRecDepth 100000 in
set_option maxHeartbeats 4000000 in
theorem atom_par {b s m w} (h : RS b s m w) (hb : m.isBad = false) (hbg : m.begins = true) (hk1 : (m.tok.k == .num) = false) (hk2 : (m.tok.k == .name) = false) (ht : m.tok.text = ⟨#[40]⟩) {n t m1} (hE : CX 34 .expr n) (hP : PM s n .expr (m.adv s) = some (t, m1)) :
    Calls Tryz.prog 167 #[.pointer (some ⟨b, 0, none⟩)] w fun e w' => ∃ v, e = .returned v ∧ NodeAt b w' t v ∧ RS b s (m1.want s ⟨#[41]⟩) w' ∧ Kp b w w' := by
  obtain ⟨gv, pl, hB, ho, hp⟩ := h.blk
  obtain ⟨c0, c1, c2, c3, c4, c5, c6, c7, c8, c9, hf, hlt0⟩ := hB.cells
  have HB : Hid (m.isBad = false) := hb
  have HBG : Hid (m.begins = true) := hbg
  clear hb hbg
  have HK : Hid ((m.tok.k == .num) = false ∧ (m.tok.k == .name) = false) := ⟨hk1, hk2⟩
  clear hk1 hk2
  have HT : Hid (m.tok.text = ⟨#[40]⟩) := ht
  clear ht
  have HP : Hid (PM s n .expr (m.adv s) = some (t, m1)) := hP
  clear hP
  go_enter Tryz.func167, Tryz.ntmps167
  go_wp2_with fail
  refine (begins_rs (h.alloc _)).mono ?_
  rw [HBG.out]
  rintro e w1 ⟨rfl, h1, k1⟩
  have hx := k1.nodes w.heap.size _ 60 hlt0 (by decide) (alloc_at _ _ _ rfl)
  have k1' : Kp b w w1 := ((Kp.refl b w).alloc (Nat.le_of_lt hlt0) _).trans k1
  clear c0 c1 c2 c3 c4 c5 c6 c7 c8 c9 hf ho hp hB k1
  go_wp2_with fail
  refine (next_rs h1 HB.out).mono ?_
  rintro e w2 ⟨rfl, h2, k2⟩
  have hx2 := k2.nodes _ _ 60 hlt0 (by decide) hx
  have k2' := k1'.trans k2
  clear k1' k2 hx h1
  obtain ⟨x0, x1, x2, x3⟩ := cells4 hx2
  rw [HK.out.1] at x2
  rw [HK.out.2] at x3
  rw [HT.out] at x0
  go_wp2_with fail
  refine (hE b s _ w2 t m1 h2 HP.out).mono ?_
  rintro e w3 ⟨v, rfl, hv, h3, k3⟩
  obtain ⟨pv, rfl⟩ := NodeAt.ptr _ _ hv
  go_wp2_with fail
  refine (wants_rs _ (by simp) h3).mono ?_
  rintro e w4 ⟨rfl, h4, k4⟩
  go_wp2_with fail
  go_ret
  exact ⟨_, rfl, NodeAt.kept k4 _ _ hv, h4, (k2'.trans k3).trans k4⟩

set_option maxRecDepth 100000 in
set_option maxHeartbeats 4000000 in
theorem atom_head {b s m w} (h : RS b s m w) (hb : m.isBad = false) (hbg : m.begins = true) (hk1 : (m.tok.k == .num) = false) (hk2 : (m.tok.k == .name) = false) (ht : m.tok.text = ⟨#[104, 101, 97, 100]⟩) {n t m1} (hA : CX 167 .atom n) (hP : PM s n .atom (m.adv s) = some (t, m1)) :
    Calls Tryz.prog 167 #[.pointer (some ⟨b, 0, none⟩)] w fun e w' => ∃ v, e = .returned v ∧ NodeAt b w' (.un 104 t) v ∧ RS b s m1 w' ∧ Kp b w w' := by
  obtain ⟨gv, pl, hB, ho, hp⟩ := h.blk
  obtain ⟨c0, c1, c2, c3, c4, c5, c6, c7, c8, c9, hf, hlt0⟩ := hB.cells
  have HB : Hid (m.isBad = false) := hb
  have HBG : Hid (m.begins = true) := hbg
  clear hb hbg
  have HK : Hid ((m.tok.k == .num) = false ∧ (m.tok.k == .name) = false) := ⟨hk1, hk2⟩
  clear hk1 hk2
  have HT : Hid (m.tok.text = ⟨#[104, 101, 97, 100]⟩) := ht
  clear ht
  have HP : Hid (PM s n .atom (m.adv s) = some (t, m1)) := hP
  clear hP
  go_enter Tryz.func167, Tryz.ntmps167
  go_wp2_with fail
  refine (begins_rs (h.alloc _)).mono ?_
  rw [HBG.out]
  rintro e w1 ⟨rfl, h1, k1⟩
  have hx := k1.nodes w.heap.size _ 60 hlt0 (by decide) (alloc_at _ _ _ rfl)
  have k1' : Kp b w w1 := ((Kp.refl b w).alloc (Nat.le_of_lt hlt0) _).trans k1
  clear c0 c1 c2 c3 c4 c5 c6 c7 c8 c9 hf ho hp hB k1
  go_wp2_with fail
  refine (next_rs h1 HB.out).mono ?_
  rintro e w2 ⟨rfl, h2, k2⟩
  have hx2 := k2.nodes _ _ 60 hlt0 (by decide) hx
  have k2' := k1'.trans k2
  clear k1' k2 hx h1
  obtain ⟨x0, x1, x2, x3⟩ := cells4 hx2
  rw [HK.out.1] at x2
  rw [HK.out.2] at x3
  rw [HT.out] at x0
  rw [HT.out] at hx2
  go_wp2_with fail
  refine (hA b s _ w2 t m1 h2 HP.out).mono ?_
  rintro e w3 ⟨v, rfl, hv, h3, k3⟩
  obtain ⟨pv, rfl⟩ := NodeAt.ptr _ _ hv
  obtain ⟨y0, y1, y2, y3⟩ := cells4 (k3.nodes _ _ 60 hlt0 (by decide) hx2)
  go_wp2_with fail
  go_ret
  have ka := (Kp.refl b w3).alloc (Nat.le_of_lt h3.lt) (.cells #[.int .u8 (unDo 104), .int .i64 0, .pointer (some pv), .pointer none, .pointer none] 86 (0, 0))
  exact ⟨_, rfl, ⟨_, IsN.made _ _ _ _ _ h3.lt, NodeAt.kept ka _ _ hv⟩, h3.alloc _, (k2'.trans k3).trans ka⟩

set_option maxRecDepth 100000 in
set_option maxHeartbeats 4000000 in
theorem atom_tail {b s m w} (h : RS b s m w) (hb : m.isBad = false) (hbg : m.begins = true) (hk1 : (m.tok.k == .num) = false) (hk2 : (m.tok.k == .name) = false) (ht : m.tok.text = ⟨#[116, 97, 105, 108]⟩) {n t m1} (hA : CX 167 .atom n) (hP : PM s n .atom (m.adv s) = some (t, m1)) :
    Calls Tryz.prog 167 #[.pointer (some ⟨b, 0, none⟩)] w fun e w' => ∃ v, e = .returned v ∧ NodeAt b w' (.un 116 t) v ∧ RS b s m1 w' ∧ Kp b w w' := by
  obtain ⟨gv, pl, hB, ho, hp⟩ := h.blk
  obtain ⟨c0, c1, c2, c3, c4, c5, c6, c7, c8, c9, hf, hlt0⟩ := hB.cells
  have HB : Hid (m.isBad = false) := hb
  have HBG : Hid (m.begins = true) := hbg
  clear hb hbg
  have HK : Hid ((m.tok.k == .num) = false ∧ (m.tok.k == .name) = false) := ⟨hk1, hk2⟩
  clear hk1 hk2
  have HT : Hid (m.tok.text = ⟨#[116, 97, 105, 108]⟩) := ht
  clear ht
  have HP : Hid (PM s n .atom (m.adv s) = some (t, m1)) := hP
  clear hP
  go_enter Tryz.func167, Tryz.ntmps167
  go_wp2_with fail
  refine (begins_rs (h.alloc _)).mono ?_
  rw [HBG.out]
  rintro e w1 ⟨rfl, h1, k1⟩
  have hx := k1.nodes w.heap.size _ 60 hlt0 (by decide) (alloc_at _ _ _ rfl)
  have k1' : Kp b w w1 := ((Kp.refl b w).alloc (Nat.le_of_lt hlt0) _).trans k1
  clear c0 c1 c2 c3 c4 c5 c6 c7 c8 c9 hf ho hp hB k1
  go_wp2_with fail
  refine (next_rs h1 HB.out).mono ?_
  rintro e w2 ⟨rfl, h2, k2⟩
  have hx2 := k2.nodes _ _ 60 hlt0 (by decide) hx
  have k2' := k1'.trans k2
  clear k1' k2 hx h1
  obtain ⟨x0, x1, x2, x3⟩ := cells4 hx2
  rw [HK.out.1] at x2
  rw [HK.out.2] at x3
  rw [HT.out] at x0
  rw [HT.out] at hx2
  go_wp2_with fail
  refine (hA b s _ w2 t m1 h2 HP.out).mono ?_
  rintro e w3 ⟨v, rfl, hv, h3, k3⟩
  obtain ⟨pv, rfl⟩ := NodeAt.ptr _ _ hv
  obtain ⟨y0, y1, y2, y3⟩ := cells4 (k3.nodes _ _ 60 hlt0 (by decide) hx2)
  go_wp2_with fail
  go_ret
  have ka := (Kp.refl b w3).alloc (Nat.le_of_lt h3.lt) (.cells #[.int .u8 (unDo 116), .int .i64 0, .pointer (some pv), .pointer none, .pointer none] 86 (0, 0))
  exact ⟨_, rfl, ⟨_, IsN.made _ _ _ _ _ h3.lt, NodeAt.kept ka _ _ hv⟩, h3.alloc _, (k2'.trans k3).trans ka⟩

set_option maxRecDepth 100000 in
set_option maxHeartbeats 4000000 in
theorem atom_null {b s m w} (h : RS b s m w) (hb : m.isBad = false) (hbg : m.begins = true) (hk1 : (m.tok.k == .num) = false) (hk2 : (m.tok.k == .name) = false) (ht : m.tok.text = ⟨#[110, 117, 108, 108]⟩) {n t m1} (hA : CX 167 .atom n) (hP : PM s n .atom (m.adv s) = some (t, m1)) :
    Calls Tryz.prog 167 #[.pointer (some ⟨b, 0, none⟩)] w fun e w' => ∃ v, e = .returned v ∧ NodeAt b w' (.un 110 t) v ∧ RS b s m1 w' ∧ Kp b w w' := by
  obtain ⟨gv, pl, hB, ho, hp⟩ := h.blk
  obtain ⟨c0, c1, c2, c3, c4, c5, c6, c7, c8, c9, hf, hlt0⟩ := hB.cells
  have HB : Hid (m.isBad = false) := hb
  have HBG : Hid (m.begins = true) := hbg
  clear hb hbg
  have HK : Hid ((m.tok.k == .num) = false ∧ (m.tok.k == .name) = false) := ⟨hk1, hk2⟩
  clear hk1 hk2
  have HT : Hid (m.tok.text = ⟨#[110, 117, 108, 108]⟩) := ht
  clear ht
  have HP : Hid (PM s n .atom (m.adv s) = some (t, m1)) := hP
  clear hP
  go_enter Tryz.func167, Tryz.ntmps167
  go_wp2_with fail
  refine (begins_rs (h.alloc _)).mono ?_
  rw [HBG.out]
  rintro e w1 ⟨rfl, h1, k1⟩
  have hx := k1.nodes w.heap.size _ 60 hlt0 (by decide) (alloc_at _ _ _ rfl)
  have k1' : Kp b w w1 := ((Kp.refl b w).alloc (Nat.le_of_lt hlt0) _).trans k1
  clear c0 c1 c2 c3 c4 c5 c6 c7 c8 c9 hf ho hp hB k1
  go_wp2_with fail
  refine (next_rs h1 HB.out).mono ?_
  rintro e w2 ⟨rfl, h2, k2⟩
  have hx2 := k2.nodes _ _ 60 hlt0 (by decide) hx
  have k2' := k1'.trans k2
  clear k1' k2 hx h1
  obtain ⟨x0, x1, x2, x3⟩ := cells4 hx2
  rw [HK.out.1] at x2
  rw [HK.out.2] at x3
  rw [HT.out] at x0
  rw [HT.out] at hx2
  go_wp2_with fail
  refine (hA b s _ w2 t m1 h2 HP.out).mono ?_
  rintro e w3 ⟨v, rfl, hv, h3, k3⟩
  obtain ⟨pv, rfl⟩ := NodeAt.ptr _ _ hv
  obtain ⟨y0, y1, y2, y3⟩ := cells4 (k3.nodes _ _ 60 hlt0 (by decide) hx2)
  go_wp2_with fail
  go_ret
  have ka := (Kp.refl b w3).alloc (Nat.le_of_lt h3.lt) (.cells #[.int .u8 (unDo 110), .int .i64 0, .pointer (some pv), .pointer none, .pointer none] 86 (0, 0))
  exact ⟨_, rfl, ⟨_, IsN.made _ _ _ _ _ h3.lt, NodeAt.kept ka _ _ hv⟩, h3.alloc _, (k2'.trans k3).trans ka⟩

theorem mem_openers {t : ByteArray} (h : mem openers t = true) : t = ⟨#[91, 93]⟩ ∨ t = ⟨#[40]⟩ ∨ t = ⟨#[104, 101, 97, 100]⟩ ∨ t = ⟨#[116, 97, 105, 108]⟩ ∨ t = ⟨#[110, 117, 108, 108]⟩ := by
  unfold mem openers at h
  simp only [List.any_cons, List.any_nil, Bool.or_false, Bool.or_eq_true, eqb_iff] at h
  rcases h with h | h | h | h | h
  · exact .inl h.symm
  · exact .inr (.inl h.symm)
  · exact .inr (.inr (.inl h.symm))
  · exact .inr (.inr (.inr (.inl h.symm)))
  · exact .inr (.inr (.inr (.inr h.symm)))

theorem atom_c (n : Nat) (hE : ∀ j, j < n → CX 34 .expr j) (hA : ∀ j, j < n → CX 167 .atom j) : CX 167 .atom n := by
  intro b s m w t m' h hP
  cases hbg : m.begins
  · cases n with
    | zero => simp [PM] at hP
    | succ n =>
      simp only [PM] at hP
      rw [if_neg (by simp [hbg])] at hP
      cases hP
      exact atom_no h hbg
  · have hb : m.isBad = false := by
      cases hb : m.isBad
      · rfl
      · rw [h.begins_bad hb] at hbg; cases hbg
    cases n with
    | zero => simp [PM] at hP
    | succ n =>
      simp only [PM] at hP
      rw [if_pos hbg] at hP
      cases hk1 : (m.tok.k == .num)
      · rw [hk1] at hP
        cases hk2 : (m.tok.k == .name)
        · rw [hk2] at hP
          simp only [Bool.false_eq_true, if_false] at hP
          have hm : mem openers m.tok.text = true := by
            unfold M.begins at hbg; rw [isBad_of_bad hb, hk1, hk2] at hbg; simpa using hbg
          rcases mem_openers hm with e | e | e | e | e
          · rw [e, if_pos (by decide)] at hP
            cases hP
            exact atom_nil h hb hbg hk1 hk2 e
          · rw [e, if_neg (by decide), if_pos (by decide)] at hP
            obtain ⟨⟨t1, m1⟩, hP1, hP⟩ := Option.bind_eq_some_iff.1 hP
            cases hP
            exact atom_par h hb hbg hk1 hk2 e (hE n (Nat.lt_succ_self n)) hP1
          · rw [e, if_neg (by decide), if_neg (by decide)] at hP
            obtain ⟨⟨t1, m1⟩, hP1, hP⟩ := Option.bind_eq_some_iff.1 hP
            cases hP
            exact atom_head h hb hbg hk1 hk2 e (hA n (Nat.lt_succ_self n)) hP1
          · rw [e, if_neg (by decide), if_neg (by decide)] at hP
            obtain ⟨⟨t1, m1⟩, hP1, hP⟩ := Option.bind_eq_some_iff.1 hP
            cases hP
            exact atom_tail h hb hbg hk1 hk2 e (hA n (Nat.lt_succ_self n)) hP1
          · rw [e, if_neg (by decide), if_neg (by decide)] at hP
            obtain ⟨⟨t1, m1⟩, hP1, hP⟩ := Option.bind_eq_some_iff.1 hP
            cases hP
            exact atom_null h hb hbg hk1 hk2 e (hA n (Nat.lt_succ_self n)) hP1
        · rw [hk2] at hP
          simp only [Bool.false_eq_true, if_false, if_true] at hP
          have e := Option.some.inj hP
          have e1 : t = (named m.tok (m.adv s)).1 := by rw [e]
          have e2 : m' = (named m.tok (m.adv s)).2 := by rw [e]
          rw [e1, e2]
          exact atom_name h hb hbg (beq_iff_eq.1 hk2)
      · rw [hk1] at hP
        simp only [if_true] at hP
        cases hP
        exact atom_num h hb hbg (beq_iff_eq.1 hk1)

theorem all_c (n : Nat) : CX 34 .expr n ∧ CX 51 .list n ∧ CX 68 .order n ∧ CX 112 .sum n ∧ CX 146 .prod n ∧ CX 159 .use n ∧ CX 167 .atom n := by
  induction n using Nat.strongRecOn with
  | _ n ih =>
    exact ⟨expr_c n (fun j hj => (ih j hj).1) (fun j hj => (ih j hj).2.1), list_c n (fun j hj => (ih j hj).2.2.1) (fun j hj => (ih j hj).2.1), order_c n (fun j hj => (ih j hj).2.2.2.1), sum_c n (fun j hj => (ih j hj).2.2.2.2.1), prod_c n (fun j hj => (ih j hj).2.2.2.2.2.1), use_c n (fun j hj => (ih j hj).2.2.2.2.2.2), atom_c n (fun j hj => (ih j hj).1) (fun j hj => (ih j hj).2.2.2.2.2.2)⟩

end Go.Proofs.YtjjlgjmebnkdjaaGreatDoor
