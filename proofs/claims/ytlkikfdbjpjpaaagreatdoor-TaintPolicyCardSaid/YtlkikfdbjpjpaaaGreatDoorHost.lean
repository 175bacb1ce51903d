/-
  Hosts: plain facts.
  host's small calls.
  host's Parse.
  Hosts on the heap; host's Parse.
  Hosts compared; what a host is (told).
  host's Show and Local.
  What is shown is parsed, what is parsed may be; the chapter's examples (awake).
  The chapter's examples answer as the chapter says (awake).
-/
import Derived.Laws.StructEq
import Derived.BigQuiet
import Derived.Deep.QuietTactic
import Derived.Shelf.Abstract
import Derived.Test.YtlkikfdbjpjpaaaGreatDoorSix
import Derived.Test.YtlkikfdbjpjpaaaGreatDoorFour
namespace Go.Proofs.YtlkikfdbjpjpaaaGreatDoor.Host
set_option linter.unusedSimpArgs false
set_option linter.unusedVariables false
set_option maxRecDepth 100000


open Go.RowKit

/-- A byte of a domain's part. -/
def namedB (c : UInt8) : Bool := Ascii.alphaB (c.toNat : Int) || (Ascii.digitB (c.toNat : Int) || (decide ((c.toNat : Int) = 45) || decide ((c.toNat : Int) = 95)))

def namedL (l : List UInt8) : Bool := l.all namedB && !l.isEmpty

/-- The parts between dots. -/
def dots : List UInt8 → List (List UInt8)
  | [] => [[]]
  | c :: r => if c = 46 then [] :: dots r else match dots r with
    | [] => [[c]]
    | h :: t => (c :: h) :: t

def partsB (l : List UInt8) : Bool := (dots l).all namedL

/-- A domain's name. -/
def domB (l : List UInt8) : Bool := decide (l.length ≤ 100) && ((l == Ascii.lower l) && (!Four.lookB l && partsB l))

theorem dots_ne (l : List UInt8) : dots l ≠ [] := by
  cases l with
  | nil => simp [dots]
  | cons c r => unfold dots; split <;> (try split) <;> simp

theorem dots_none (l : List UInt8) (h : (46 : UInt8) ∉ l) : dots l = [l] := by
  induction l with
  | nil => rfl
  | cons c r ih =>
    simp only [List.mem_cons, not_or] at h
    unfold dots
    rw [if_neg (fun e => h.1 e.symm), ih h.2]

theorem dots_cons (a r : List UInt8) (h : (46 : UInt8) ∉ a) : dots (a ++ 46 :: r) = a :: dots r := by
  induction a with
  | nil => simp [dots]
  | cons c a ih =>
    simp only [List.mem_cons, not_or] at h
    rw [List.cons_append]
    conv => lhs; unfold dots
    rw [if_neg (fun e => h.1 e.symm), ih h.2]

theorem dotInd {p : List UInt8 → Prop} (h0 : ∀ l, (46 : UInt8) ∉ l → p l) (h1 : ∀ a r, (46 : UInt8) ∉ a → p r → p (a ++ 46 :: r)) (l : List UInt8) : p l := by
  have key : ∀ n (l : List UInt8), l.length ≤ n → p l := by
    intro n
    induction n with
    | zero =>
      intro l hl
      obtain rfl : l = [] := List.eq_nil_of_length_eq_zero (by omega)
      exact h0 [] (by simp)
    | succ n ih =>
      intro l hl
      rcases Four.first_dot l with h | ⟨a, r, rfl, ha⟩
      · exact h0 l h
      · exact h1 a r ha (ih r (by simp at hl; omega))
  exact key _ l (Nat.le_refl _)

/-- What strings.Split cuts. -/
theorem split_dots (l : List UInt8) : Lib.splitK [46] 0 (Lib.count l [46]) l = dots l := by
  refine dotInd (p := fun l => Lib.splitK [46] 0 (Lib.count l [46]) l = dots l) (fun l h => ?_) (fun a r ha ih => ?_) l
  · rw [Four.split_none _ _ h, dots_none _ h]
  · have hc := Lib.count_hit (sub := [46]) (by simp) (Four.idx_some a r ha)
    rw [show (a ++ 46 :: r).drop (a.length + ([46] : List UInt8).length) = r by simp] at hc
    rw [hc, Nat.add_comm, Four.split_dot _ _ _ ha, dots_cons _ _ ha, ih]

theorem parts_dot (a r : List UInt8) (ha : (46 : UInt8) ∉ a) : partsB (a ++ 46 :: r) = (namedL a && partsB r) := by unfold partsB; rw [dots_cons _ _ ha, List.all_cons]

theorem parts_one (a : List UInt8) (ha : (46 : UInt8) ∉ a) : partsB a = namedL a := by unfold partsB; rw [dots_none _ ha]; simp

theorem parts_all (l : List UInt8) : partsB l = true → ∀ c ∈ l, namedB c = true ∨ c = 46 := by
  refine dotInd (p := fun l => partsB l = true → ∀ c ∈ l, namedB c = true ∨ c = 46) (fun l h => ?_) (fun a r ha ih => ?_) l
  · rw [parts_one _ h]
    intro hn c hc
    unfold namedL at hn
    rw [Bool.and_eq_true] at hn
    exact .inl (List.all_eq_true.1 hn.1 c hc)
  · rw [parts_dot _ _ ha, Bool.and_eq_true]
    rintro ⟨h1, h2⟩ c hc
    unfold namedL at h1
    rw [Bool.and_eq_true] at h1
    rcases List.mem_append.1 hc with hc | hc
    · exact .inl (List.all_eq_true.1 h1.1 c hc)
    · rcases List.mem_cons.1 hc with rfl | hc
      · exact .inr rfl
      · exact ih h2 c hc

theorem parts_nil : partsB [] = false := by decide +kernel

/-- A name with a dot and a part behind it. -/
theorem parts_behind (b : List UInt8) (hb : (46 : UInt8) ∉ b) (l : List UInt8) : partsB (l ++ 46 :: b) = (partsB l && namedL b) := by
  refine dotInd (p := fun l => partsB (l ++ 46 :: b) = (partsB l && namedL b)) (fun l h => ?_) (fun a r ha ih => ?_) l
  · rw [parts_dot _ _ h, parts_one _ h, parts_one _ hb]
  · rw [List.append_assoc, List.cons_append, parts_dot _ _ ha, ih, parts_dot _ _ ha, Bool.and_assoc]

theorem dom_iff (l : List UInt8) : domB l = true ↔ l.length ≤ 100 ∧ l = Ascii.lower l ∧ Four.lookB l = false ∧ partsB l = true := by
  unfold domB
  rw [Bool.and_eq_true, Bool.and_eq_true, Bool.and_eq_true, decide_eq_true_iff, beq_iff_eq, Bool.not_eq_true']

theorem dom_ne (l : List UInt8) (h : domB l = true) : l ≠ [] := by
  rintro rfl
  have := ((dom_iff _).1 h).2.2.2
  rw [parts_nil] at this
  cases this

/-- What a byte of a name, or a dot, is not. -/
theorem byte_all : ∀ n : Fin 256, (namedB (UInt8.ofNat n.val) = true ∨ UInt8.ofNat n.val = 46) → (32 < n.val ∧ n.val < 127 ∧ n.val ≠ 47 ∧ n.val ≠ 63 ∧ n.val ≠ 35 ∧ n.val ≠ 64 ∧ n.val ≠ 92 ∧ n.val ≠ 58 ∧ n.val ≠ 91 ∧ n.val ≠ 93 ∧ n.val ≠ 37) := by decide +kernel

theorem byte_not (c : UInt8) (h : namedB c = true ∨ c = 46) : 32 < c.toNat ∧ c.toNat < 127 ∧ c.toNat ≠ 47 ∧ c.toNat ≠ 63 ∧ c.toNat ≠ 35 ∧ c.toNat ≠ 64 ∧ c.toNat ≠ 92 ∧ c.toNat ≠ 58 ∧ c.toNat ≠ 91 ∧ c.toNat ≠ 93 ∧ c.toNat ≠ 37 := by
  have := byte_all ⟨c.toNat, c.toNat_lt⟩
  simp only [UInt8.ofNat_toNat] at this
  exact this h

theorem low_cap (c : UInt8) (h : Ascii.lowB c = c) : ¬ (65 ≤ c.toNat ∧ c.toNat ≤ 90) := by
  intro ⟨h1, h2⟩
  have := Ascii.lowB_toNat c
  rw [h] at this
  unfold Ascii.lowI at this
  rw [if_pos ⟨by omega, by omega⟩] at this
  omega

theorem lower_mem (l : List UInt8) (h : l = Ascii.lower l) (c : UInt8) (hc : c ∈ l) : Ascii.lowB c = c := by
  unfold Ascii.lower at h
  obtain ⟨j, hj, rfl⟩ := List.mem_iff_getElem.1 hc
  have h2 := congrArg (fun x => x[j]?) h
  simp only [List.getElem?_map, List.getElem?_eq_getElem hj, Option.map_some, Option.some.injEq] at h2
  exact h2.symm



open Six (arr RowAt zero8)

/-- A host's cells. -/
def cH (k : Int) (s : ByteArray) (n : Int) (p : List Int) : Array Value := (.int .i64 k :: .string s :: .int .i64 n :: p.map (Value.int .i64)).toArray
/-! ### What a host is, asked of -/

theorem is42 (v : Value) (w : World) : (Instr.typeAssert (.iface 111 v) 108 111 true).run Tryz.prog w = .ok (.tuple #[v, .bool true]) w := by kernel_rfl

theorem is44 (v : Value) (w : World) : (Instr.typeAssert (.iface 112 v) 108 112 true).run Tryz.prog w = .ok (.tuple #[v, .bool true]) w := by kernel_rfl

theorem is46 (v : Value) (w : World) : (Instr.typeAssert (.iface 113 v) 108 113 true).run Tryz.prog w = .ok (.tuple #[v, .bool true]) w := by kernel_rfl

theorem no42_44 (v : Value) (w : World) : (Instr.typeAssert (.iface 112 v) 108 111 true).run Tryz.prog w = .ok (.tuple #[.string ⟨#[]⟩, .bool false]) w := by kernel_rfl

theorem no42_46 (v : Value) (w : World) : (Instr.typeAssert (.iface 113 v) 108 111 true).run Tryz.prog w = .ok (.tuple #[.string ⟨#[]⟩, .bool false]) w := by kernel_rfl

theorem no44_46 (v : Value) (w : World) : (Instr.typeAssert (.iface 113 v) 108 112 true).run Tryz.prog w = .ok (.tuple #[.int .i64 0, .bool false]) w := by kernel_rfl

theorem nil42 (w : World) : (Instr.typeAssert .nilIface 108 111 true).run Tryz.prog w = .ok (.tuple #[.string ⟨#[]⟩, .bool false]) w := by kernel_rfl

theorem nil44 (w : World) : (Instr.typeAssert .nilIface 108 112 true).run Tryz.prog w = .ok (.tuple #[.int .i64 0, .bool false]) w := by kernel_rfl

theorem nil46 (w : World) : (Instr.typeAssert .nilIface 108 113 true).run Tryz.prog w = .ok (.tuple #[.agg (arr zero8), .bool false]) w := by kernel_rfl

theorem size24 : (Tryz.prog.info? 24).map (·.size) = some 11 := by kernel_rfl

theorem cH_size (k : Int) (s : ByteArray) (n : Int) (p : List Int) (h8 : p.length = 8) : (cH k s n p).size = 11 := by simp [cH, h8]

/-- A host as a call's answer. -/
theorem ret_host {fn : Func} {d : Tmp} (h : fn.results = #[.cell d 24]) {tmps : Array Value} {W : World} (g : Nat) (k : Int) (s : ByteArray) (n : Int) (p : List Int) (h8 : p.length = 8) (hp : tmps.getD d undef = .pointer (some ⟨g, 0, none⟩)) (hg : W.heap[g]? = some (.cells (cH k s n p) 24 (0, 0))) :
    (results fn tmps).run Tryz.prog W = .ok (.agg (cH k s n p)) W :=
  results_cell_row h tmps W g 24 (cH k s n p) (0, 0) _ hp hg Tryz.underlying24 rfl (by rw [cH_size _ _ _ _ h8]; exact size24)

set_option maxRecDepth 100000 in
set_option maxHeartbeats 1000000 in
theorem whole_dom (s : ByteArray) (w : World) : Calls Tryz.prog 137 #[.iface 111 (.string s)] w fun e w' => e = .returned (.agg (cH 1 s 0 zero8)) ∧ Below w.heap.size w w' := by
  have a1 := is42 (.string s)
  go_enter Tryz.func137, Tryz.ntmps137
  go_wp2
  exact bodyPost_ret (ret_host Tryz.results137 w.heap.size 1 s 0 zero8 rfl rfl (heap_alloc_new w _)) rfl ⟨rfl, (Below.refl _ w).alloc (Nat.le_refl _) _⟩

set_option maxRecDepth 100000 in
set_option maxHeartbeats 1000000 in
theorem whole_num (n : Int) (w : World) : Calls Tryz.prog 137 #[.iface 112 (.int .i64 n)] w fun e w' => e = .returned (.agg (cH 2 ⟨#[]⟩ n zero8)) ∧ Below w.heap.size w w' := by
  have a1 := is44 (.int .i64 n)
  have a2 := no42_44 (.int .i64 n)
  go_enter Tryz.func137, Tryz.ntmps137
  go_wp2
  exact bodyPost_ret (ret_host Tryz.results137 w.heap.size 2 ⟨#[]⟩ n zero8 rfl rfl (heap_alloc_new w _)) rfl ⟨rfl, (Below.refl _ w).alloc (Nat.le_refl _) _⟩

set_option maxRecDepth 100000 in
set_option maxHeartbeats 1000000 in
theorem whole_six8 (a0 a1 a2 a3 a4 a5 a6 a7 : Int) (w : World) : Calls Tryz.prog 137 #[.iface 113 (.agg #[.int .i64 a0, .int .i64 a1, .int .i64 a2, .int .i64 a3, .int .i64 a4, .int .i64 a5, .int .i64 a6, .int .i64 a7])] w fun e w' => e = .returned (.agg (cH 3 ⟨#[]⟩ 0 [a0, a1, a2, a3, a4, a5, a6, a7])) ∧ Below w.heap.size w w' := by
  have b1 := is46 (.agg #[.int .i64 a0, .int .i64 a1, .int .i64 a2, .int .i64 a3, .int .i64 a4, .int .i64 a5, .int .i64 a6, .int .i64 a7])
  have b2 := no42_46 (.agg #[.int .i64 a0, .int .i64 a1, .int .i64 a2, .int .i64 a3, .int .i64 a4, .int .i64 a5, .int .i64 a6, .int .i64 a7])
  have b3 := no44_46 (.agg #[.int .i64 a0, .int .i64 a1, .int .i64 a2, .int .i64 a3, .int .i64 a4, .int .i64 a5, .int .i64 a6, .int .i64 a7])
  go_enter Tryz.func137, Tryz.ntmps137
  go_wp2
  exact bodyPost_ret (ret_host Tryz.results137 w.heap.size 3 ⟨#[]⟩ 0 [a0, a1, a2, a3, a4, a5, a6, a7] rfl rfl (heap_alloc2_old w _ _)) rfl ⟨rfl, ((Below.refl _ w).alloc (Nat.le_refl _) _).alloc (by simp) _⟩

theorem whole_six (p : List Int) (h8 : p.length = 8) (w : World) : Calls Tryz.prog 137 #[.iface 113 (.agg (arr p))] w fun e w' => e = .returned (.agg (cH 3 ⟨#[]⟩ 0 p)) ∧ Below w.heap.size w w' := by
  match p, h8 with
  | [a0, a1, a2, a3, a4, a5, a6, a7], _ => exact whole_six8 a0 a1 a2 a3 a4 a5 a6 a7 w
/-! ### named -/

theorem byte5 (c : Int) : (Ascii.alphaB c = true) ∨ (Ascii.alphaB c = false ∧ Ascii.digitB c = true) ∨ (Ascii.alphaB c = false ∧ Ascii.digitB c = false ∧ (c != 45) = false) ∨ (Ascii.alphaB c = false ∧ Ascii.digitB c = false ∧ (c != 45) = true ∧ (c != 95) = false) ∨
    (Ascii.alphaB c = false ∧ Ascii.digitB c = false ∧ (c != 45) = true ∧ (c != 95) = true) := by
  cases Ascii.alphaB c
  · cases Ascii.digitB c
    · by_cases h : c = 45
      · exact .inr (.inr (.inl ⟨rfl, rfl, by simp [h]⟩))
      · by_cases h2 : c = 95
        · exact .inr (.inr (.inr (.inl ⟨rfl, rfl, by simpa using h, by simp [h2]⟩)))
        · exact .inr (.inr (.inr (.inr ⟨rfl, rfl, by simpa using h, by simpa using h2⟩)))
    · exact .inr (.inl ⟨rfl, rfl⟩)
  · exact .inl rfl

theorem named5 (c : UInt8) : (namedB c = true ∧ ((Ascii.alphaB (c.toNat : Int) = true) ∨ (Ascii.alphaB (c.toNat : Int) = false ∧ Ascii.digitB (c.toNat : Int) = true) ∨ (Ascii.alphaB (c.toNat : Int) = false ∧ Ascii.digitB (c.toNat : Int) = false ∧ ((c.toNat : Int) != 45) = false) ∨
    (Ascii.alphaB (c.toNat : Int) = false ∧ Ascii.digitB (c.toNat : Int) = false ∧ ((c.toNat : Int) != 45) = true ∧ ((c.toNat : Int) != 95) = false))) ∨
    (namedB c = false ∧ Ascii.alphaB (c.toNat : Int) = false ∧ Ascii.digitB (c.toNat : Int) = false ∧ ((c.toNat : Int) != 45) = true ∧ ((c.toNat : Int) != 95) = true) := by
  unfold namedB
  rcases byte5 (c.toNat : Int) with h | ⟨h1, h2⟩ | ⟨h1, h2, h3⟩ | ⟨h1, h2, h3, h4⟩ | ⟨h1, h2, h3, h4⟩
  · exact .inl ⟨by rw [h]; rfl, .inl h⟩
  · exact .inl ⟨by rw [h1, h2]; rfl, .inr (.inl ⟨h1, h2⟩)⟩
  · refine .inl ⟨?_, .inr (.inr (.inl ⟨h1, h2, h3⟩))⟩
    have e : (c.toNat : Int) = 45 := by simpa using h3
    rw [h1, h2, decide_eq_true e]; rfl
  · refine .inl ⟨?_, .inr (.inr (.inr ⟨h1, h2, h3, h4⟩))⟩
    have e : (c.toNat : Int) = 95 := by simpa using h4
    rw [h1, h2, decide_eq_true e]; simp
  · refine .inr ⟨?_, h1, h2, h3, h4⟩
    have e1 : ¬ (c.toNat : Int) = 45 := by simpa using h3
    have e2 : ¬ (c.toNat : Int) = 95 := by simpa using h4
    rw [h1, h2, decide_eq_false e1, decide_eq_false e2]; rfl

set_option maxRecDepth 100000 in
set_option maxHeartbeats 2000000 in
theorem named_any (s : ByteArray) (hs : s.size ≤ 1000000) (b : Bool) (hb : namedL s.data.toList = b) (w : World) : Calls Tryz.prog 202 #[.string s] w fun e w' => e = .returned (.bool b) ∧ w = w' := by
  have HB := Lib.hid hb
  have HSZ := Lib.hid (show s.data.toList.length = s.size from rfl)
  clear hb
  go_enter Tryz.func202, Tryz.ntmps202
  go_wp2
  go_loop [7] (fun i => ∃ k : Nat, k ≤ s.size ∧ i = .int .i64 k ∧ Hid ((s.data.toList.take k).all namedB = true)) (fun i => s.size - (intOf i).toNat)
  case atStart => exact ⟨0, Nat.zero_le _, rfl, Lib.hid rfl⟩
  case round =>
    obtain ⟨k, hk, rfl, HA⟩ := hrel
    by_cases hlt : k < s.size
    · have t1 : (k : Int) < s.size := by omega
      have hts : s.data.toList.take (k + 1) = s.data.toList.take k ++ [s[k]] := Ascii.take_snoc s k hlt
      have hmem : s[k] ∈ s.data.toList := by
        have : s.data.toList[k]'hlt = s[k] := rfl
        rw [← this]; exact List.getElem_mem _
      rcases named5 s[k] with ⟨hn, hh⟩ | ⟨hn, h1, h2, h3, h4⟩
      · have HN := Lib.hid (show (s.data.toList.take (k + 1)).all namedB = true by rw [hts, List.all_append, HA.out]; simp [hn])
        clear hts hmem hn HA
        rcases hh with h1 | ⟨h1, h2⟩ | ⟨h1, h2, h3⟩ | ⟨h1, h2, h3, h4⟩
        all_goals
          go_wp2_with (first | (go_at_call 120; refine (Ascii.alpha_any _ _).mono ?_; rintro e w' ⟨rfl, rfl⟩) | (go_at_call 121; refine (Ascii.digit_any _ _).mono ?_; rintro e w' ⟨rfl, rfl⟩))
          go_round
          case rel => exact ⟨k + 1, by omega, by go_num, HN⟩
          case measure => simp [intOf]; omega
      · have HF := Lib.hid (show b = false by
          rw [← HB.out]
          unfold namedL
          have : s.data.toList.all namedB = false := by
            cases e : s.data.toList.all namedB
            · rfl
            · rw [List.all_eq_true.1 e _ hmem] at hn; cases hn
          rw [this]; rfl)
        clear hts hmem hn HA
        go_wp2_with (first | (go_at_call 120; refine (Ascii.alpha_any _ _).mono ?_; rintro e w' ⟨rfl, rfl⟩) | (go_at_call 121; refine (Ascii.digit_any _ _).mono ?_; rintro e w' ⟨rfl, rfl⟩))
        go_ret
        exact ⟨congrArg (fun x => Ending.returned (Value.bool x)) HF.out.symm, rfl⟩
    · obtain rfl : k = s.size := by omega
      have HF := Lib.hid (show (!s.toList.isEmpty) = b by
        rw [← HB.out]
        have h := HA.out
        rw [← HSZ.out, List.take_length] at h
        unfold namedL
        rw [h, ByteArray.toList_eq]; rfl)
      clear HA
      go_wp2
      go_ret
      exact ⟨congrArg (fun x => Ending.returned (Value.bool x)) HF.out, rfl⟩
/-! ### a domain's may -/

theorem toList_ba (x : ByteArray) : x.toList = x.data.toList := ByteArray.toList_eq x

theorem ba_eq (x y : ByteArray) : (x.toList == y.toList) = (x.data.toList == y.data.toList) := by rw [toList_ba, toList_ba]

set_option maxRecDepth 100000 in
set_option maxHeartbeats 4000000 in
theorem dmay_any (s : ByteArray) (hs : s.size ≤ 1000000) (b : Bool) (hb : domB s.data.toList = b) (m : Int) (w : World) (hm : Six.At m w) : Calls Tryz.prog 179 #[.string s] w fun e w' => e = .returned (.bool b) ∧ Below w.heap.size w w' := by
  have HB := Lib.hid hb
  have HM := Lib.hid hm
  obtain ⟨x, hx⟩ : ∃ x : ByteArray, (⟨(Ascii.lower s.data.toList).toArray⟩ : ByteArray) = x := ⟨_, rfl⟩
  have cLow := Lib.hid (fun u => Ascii.lower_calls s (by unfold maxLen; omega) (by omega) u)
  rw [hx] at cLow
  obtain ⟨l, hl⟩ : ∃ l, Four.lookB s.data.toList = l := ⟨_, rfl⟩
  have cLook := Lib.hid (fun u => Four.looks_at s hs l hl u)
  have hne : (s.toList == x.toList) = (s.data.toList == Ascii.lower s.data.toList) := by rw [ba_eq, ← hx]
  by_cases h100 : s.size ≤ 100
  · have d1 : decide ((100 : Int) < (s.size : Int)) = false := decide_eq_false (by omega)
    cases heq : (s.data.toList == Ascii.lower s.data.toList)
    · have e1 : (s.toList == x.toList) = false := hne.trans heq
      have HF := Lib.hid (show b = false by rw [← HB.out]; unfold domB; rw [heq]; simp)
      clear hb hm hx hl hne heq
      go_enter Tryz.func179, Tryz.ntmps179
      go_wp2_with fail
      refine (cLow.out _).mono ?_
      rintro e u1 ⟨rfl, hB1⟩
      go_wp2
      go_ret
      exact ⟨congrArg (fun x => Ending.returned (Value.bool x)) HF.out.symm, hB1⟩
    · have e1 : (s.toList == x.toList) = true := hne.trans heq
      have HE := Lib.hid heq
      have HL := Lib.hid hl
      cases l
      · obtain ⟨P, hP⟩ : ∃ P, Lib.splitB ⟨#[46]⟩ 0 (Lib.countB s ⟨#[46]⟩) s = P := ⟨_, rfl⟩
        have hPd : P.map (·.data.toList) = dots s.data.toList := by
          rw [← hP, Lib.splitB_data]
          exact split_dots s.data.toList
        have hPl : P.length = Lib.countB s ⟨#[46]⟩ + 1 := by rw [← hP]; exact Lib.splitB_all ⟨#[46]⟩ (by decide) 0 _ s rfl
        have cSpl := Lib.hid (fun u (hu : Six.At m u) => Tryz.strings_Split s ⟨#[46]⟩ m u (by omega) hu.max (by decide))
        rw [hP, ← hPl] at cSpl
        have hcle : P.length ≤ 200 := by
          rw [hPl]
          have := Lib.countB_le ⟨#[46]⟩ (by decide) s.size s (Nat.le_refl _)
          omega
        have HPd := Lib.hid hPd
        have HFin := Lib.hid (show P.all (fun t => namedL t.data.toList) = b by
          rw [← HB.out]
          unfold domB partsB
          rw [HE.out, HL.out, decide_eq_true (show s.data.toList.length ≤ 100 from h100), ← HPd.out, List.all_map]
          rfl)
        have HPs := Lib.hid (show ∀ t ∈ P, t.size ≤ 1000000 by
          intro t ht
          have h1 : t.data.toList ∈ Lib.splitK [46] 0 (Lib.countB s ⟨#[46]⟩) s.data.toList := by
            rw [← show P.map (·.data.toList) = Lib.splitK [46] 0 (Lib.countB s ⟨#[46]⟩) s.data.toList by rw [← hP, Lib.splitB_data]]
            exact List.mem_map.2 ⟨t, ht, rfl⟩
          have h2 := Four.split_le _ _ _ h1
          have e1 : t.data.toList.length = t.size := rfl
          have e2 : s.data.toList.length = s.size := rfl
          omega)
        clear hb hm hx hl hne heq hP hPd hPl HPd HE HL HB
        go_enter Tryz.func179, Tryz.ntmps179
        go_wp2_with fail
        refine (cLow.out _).mono ?_
        rintro e u1 ⟨rfl, hB1⟩
        have HB1 := Lib.hid hB1
        clear hB1 cLow
        go_wp2_with fail
        refine (cLook.out _).mono ?_
        rintro e u1' ⟨rfl, rfl⟩
        clear cLook
        go_wp2_with fail
        refine (cSpl.out _ (HM.out.later HB1.out)).mono ?_
        rintro e u2 ⟨rfl, hu2⟩
        have HB2 := Lib.hid (show Below u1.heap.size u1 u2 by rw [hu2]; exact (Below.refl _ _).alloc (Nat.le_refl _) _)
        have HC := Lib.hid (show ∀ j (h : j < P.length), u2.cell? ⟨u1.heap.size, j, none⟩ = some (.string P[j]) by
          intro j h
          rw [hu2, World.cell?_alloc_at _ _ _ _ rfl]
          simp [h])
        clear hu2 cSpl HM
        go_wp2
        go_loopw [23] (fun i wr => ∃ k : Nat, k ≤ P.length ∧ i = .int .i64 k ∧ Hid ((P.take k).all (fun t => namedL t.data.toList) = true) ∧ wr = u2) (fun i _ => P.length - (intOf i).toNat)
        case atStart => exact ⟨0, Nat.zero_le _, rfl, Lib.hid rfl, rfl⟩
        case round =>
          obtain ⟨k, hk, rfl, HA, rfl⟩ := hrel
          by_cases hlt : k < P.length
          · have t1 : (k : Int) < P.length := by omega
            have hc := HC.out k hlt
            have hsz := HPs.out P[k] (List.getElem_mem _)
            have hmem : P[k] ∈ P := List.getElem_mem _
            have hts : P.take (k + 1) = P.take k ++ [P[k]] := List.take_succ_eq_append_getElem hlt
            cases hn : namedL P[k].data.toList
            · have HF := Lib.hid (show b = false by
                rw [← HFin.out]
                cases e : P.all (fun t => namedL t.data.toList)
                · rfl
                · rw [List.all_eq_true.1 e _ hmem] at hn; cases hn)
              generalize P[k] = t at hc hn hsz
              have cN := Lib.hid (fun u => named_any t hsz false hn u)
              clear hmem hts hn HA
              go_wp2_with (go_at_call 202; refine (cN.out _).mono ?_; rintro e w' ⟨rfl, rfl⟩)
              go_ret
              exact ⟨congrArg (fun x => Ending.returned (Value.bool x)) HF.out.symm, Ascii.below2 HB1.out HB2.out⟩
            · have HN := Lib.hid (show (P.take (k + 1)).all (fun t => namedL t.data.toList) = true by rw [hts, List.all_append, HA.out]; simp [hn])
              generalize P[k] = t at hc hn hsz
              have cN := Lib.hid (fun u => named_any t hsz true hn u)
              clear hmem hts hn HA
              go_wp2_with (go_at_call 202; refine (cN.out _).mono ?_; rintro e w' ⟨rfl, rfl⟩)
              go_roundw
              case rel => exact ⟨k + 1, by omega, by go_num, HN, by first | trivial | rfl⟩
              case measure => simp [intOf]; omega
          · obtain rfl : k = P.length := by omega
            have HF := Lib.hid (show true = b by
              rw [← HFin.out]
              have h := HA.out
              rw [List.take_length] at h
              exact h.symm)
            clear HA
            go_wp2
            go_ret
            exact ⟨congrArg (fun x => Ending.returned (Value.bool x)) HF.out, Ascii.below2 HB1.out HB2.out⟩
      · have HF := Lib.hid (show b = false by rw [← HB.out]; unfold domB; rw [hl]; simp)
        clear hb hm hx hl hne heq
        go_enter Tryz.func179, Tryz.ntmps179
        go_wp2_with fail
        refine (cLow.out _).mono ?_
        rintro e u1 ⟨rfl, hB1⟩
        go_wp2_with fail
        refine (cLook.out _).mono ?_
        rintro e u1' ⟨rfl, rfl⟩
        go_wp2
        go_ret
        exact ⟨congrArg (fun x => Ending.returned (Value.bool x)) HF.out.symm, hB1⟩
  · have d1 : decide ((100 : Int) < (s.size : Int)) = true := decide_eq_true (by omega)
    have HF := Lib.hid (show b = false by rw [← HB.out]; unfold domB; rw [decide_eq_false (show ¬ s.data.toList.length ≤ 100 from h100)]; rfl)
    clear hb hm hx hl hne
    go_enter Tryz.func179, Tryz.ntmps179
    go_wp2
    go_ret
    exact ⟨congrArg (fun x => Ending.returned (Value.bool x)) HF.out.symm, Below.refl _ _⟩
/-! ### a number's may, the pieces' may, Clone, brackets -/

theorem fits_show (n : Int) : ((⟨(Four.showF n).toArray⟩ : ByteArray).toList.isEmpty) = !Four.fitsB n := by
  rw [toList_ba]
  show (Four.showF n).isEmpty = _
  unfold Four.showF
  cases h : Four.fitsB n
  · rfl
  · have h1 := Four.fitsB_true h
    have h2 := (Four.show4_len n.toNat (by omega)).1
    rw [if_pos rfl]
    cases e : Four.show4 n.toNat with
    | nil => rw [e] at h2; simp at h2
    | cons c r => rfl

theorem nmay_any (n : Int) (b : Bool) (hb : Four.fitsB n = b) (w : World) : Calls Tryz.prog 244 #[.int .i64 n] w fun e w' => e = .returned (.bool b) ∧ Below w.heap.size w w' := by
  obtain ⟨x, hx⟩ : ∃ x : ByteArray, (⟨(Four.showF n).toArray⟩ : ByteArray) = x := ⟨_, rfl⟩
  have hf := fits_show n
  rw [hx, hb] at hf
  have cS := Lib.hid (fun u => Four.showF_at n x hx u)
  clear hx hb
  go_enter Tryz.func244, Tryz.ntmps244
  go_wp2_with fail
  refine (cS.out _).mono ?_
  rintro e u1 ⟨rfl, hB1⟩
  go_wp2
  go_ret
  exact ⟨by simp, hB1⟩

/-- A whole array of another name of the type. -/
theorem load46 (g : Nat) (p : List Int) (h8 : p.length = 8) (t : TypeId) (fr : Nat × Nat) (w : World) (h : w.heap[g]? = some (.cells (arr p) t fr)) : (loadVar 113 ⟨g, 0, none⟩).run Tryz.prog w = .ok (.agg (arr p)) w :=
  run_loadVar_row w g t 113 (arr p) fr _ h Tryz.underlying113 rfl (by rw [Six.arr_size, h8]; kernel_rfl)

theorem pmay_any (p : List Int) (h8 : p.length = 8) (b : Bool) (hb : Six.mayP p = b) (w : World) : Calls Tryz.prog 245 #[.agg (arr p)] w fun e w' => e = .returned (.bool b) ∧ Below w.heap.size w w' := by
  match p, h8 with
  | [a0, a1, a2, a3, a4, a5, a6, a7], h8 =>
  have cM := Lib.hid (fun u => Six.may_any [a0, a1, a2, a3, a4, a5, a6, a7] rfl b hb u)
  have HB := Lib.hid (show Below w.heap.size w (w.alloc (.cells #[.int .i64 a0, .int .i64 a1, .int .i64 a2, .int .i64 a3, .int .i64 a4, .int .i64 a5, .int .i64 a6, .int .i64 a7] 113)) from (Below.refl _ w).alloc (Nat.le_refl _) _)
  clear hb h8
  show Calls Tryz.prog 245 #[.agg #[.int .i64 a0, .int .i64 a1, .int .i64 a2, .int .i64 a3, .int .i64 a4, .int .i64 a5, .int .i64 a6, .int .i64 a7]] w _
  go_enter Tryz.func245, Tryz.ntmps245
  go_wp2_with fail
  refine (cM.out _).mono ?_
  rintro e u1 ⟨rfl, hB1⟩
  go_wp2
  go_ret
  exact ⟨rfl, Ascii.below2 HB.out hB1⟩

theorem clone_any (s : ByteArray) (hs : s.size ≤ 1000000) (w : World) : Calls Tryz.prog 40 #[.string s] w fun e w' => e = .returned (.string s) ∧ Below w.heap.size w w' := by
  have cC := Lib.hid (fun u => Tryz.stringslite_Clone s u (by omega))
  go_enter Tryz.func40, Tryz.ntmps40
  go_wp2_with fail
  refine (cC.out _).mono ?_
  rintro e u1 ⟨rfl, hB1⟩
  go_wp2
  go_ret
  exact ⟨rfl, hB1⟩

/-- Does it begin by [, and end by ]? -/
def brkB (l : List UInt8) : Bool := Lib.hasPrefix l [91] && Lib.hasSuffix l [93]

def inner (l : List UInt8) : List UInt8 := (l.take (l.length - 1)).drop 1



theorem pre_iff (l : List UInt8) : Lib.hasPrefix l [91] = true ↔ ∃ r, l = 91 :: r := by
  unfold Lib.hasPrefix
  cases l with
  | nil => simp
  | cons c r =>
    simp only [List.isPrefixOf, Bool.and_true, beq_iff_eq]
    constructor
    · rintro rfl; exact ⟨r, rfl⟩
    · rintro ⟨r', h⟩; exact (List.cons.inj h).1.symm

theorem suf_iff (l : List UInt8) : Lib.hasSuffix l [93] = true ↔ ∃ r, l = r ++ [93] := by
  unfold Lib.hasSuffix
  rw [List.isSuffixOf_iff_suffix]
  constructor
  · rintro ⟨r, rfl⟩; exact ⟨r, rfl⟩
  · rintro ⟨r, rfl⟩; exact ⟨r, rfl⟩

theorem brk_iff (l : List UInt8) : brkB l = true ↔ ∃ x, l = 91 :: (x ++ [93]) := by
  unfold brkB
  rw [Bool.and_eq_true, pre_iff, suf_iff]
  constructor
  · rintro ⟨⟨r, rfl⟩, q, hq⟩
    cases q with
    | nil => simp at hq
    | cons d q => simp at hq; exact ⟨q, by rw [hq.2]⟩
  · rintro ⟨x, rfl⟩
    exact ⟨⟨_, rfl⟩, 91 :: x, rfl⟩

theorem inner_of (x : List UInt8) : inner (91 :: (x ++ [93])) = x := by simp [inner]

theorem brk_size (l : List UInt8) (h : brkB l = true) : 2 ≤ l.length := by
  obtain ⟨x, rfl⟩ := (brk_iff l).1 h
  simp

set_option maxRecDepth 100000 in
set_option maxHeartbeats 1000000 in
theorem brk_no (s : ByteArray) (hs : s.size ≤ 1000000) (h : brkB s.data.toList = false) (w : World) : Calls Tryz.prog 175 #[.string s] w fun e w' => e = .returned (.tuple #[.string ⟨#[]⟩, .bool false]) ∧ w = w' := by
  have cP := Lib.hid (fun u => Tryz.strings_HasPrefix s ⟨#[91]⟩ u)
  have cS := Lib.hid (fun u => Tryz.strings_HasSuffix s ⟨#[93]⟩ u (by omega))
  rw [show (⟨#[91]⟩ : ByteArray).data.toList = [91] from rfl] at cP
  rw [show (⟨#[93]⟩ : ByteArray).data.toList = [93] from rfl] at cS
  unfold brkB at h
  generalize Lib.hasPrefix s.data.toList [91] = a at cP h
  generalize Lib.hasSuffix s.data.toList [93] = b at cS h
  cases a
  · go_enter Tryz.func175, Tryz.ntmps175
    go_wp2_with fail
    refine (cP.out _).mono ?_
    rintro e u ⟨rfl, hu⟩
    rw [hu]
    go_wp2
    go_ret2
    exact ⟨rfl, rfl⟩
  · obtain rfl : b = false := by simpa using h
    go_enter Tryz.func175, Tryz.ntmps175
    go_wp2_with fail
    refine (cP.out _).mono ?_
    rintro e u ⟨rfl, hu⟩
    rw [hu]
    go_wp2_with fail
    refine (cS.out _).mono ?_
    rintro e v ⟨rfl, hv⟩
    rw [hv]
    go_wp2
    go_ret2
    exact ⟨rfl, rfl⟩

set_option maxRecDepth 100000 in
set_option maxHeartbeats 1000000 in
theorem brk_yes (s : ByteArray) (hs : s.size ≤ 1000000) (h : brkB s.data.toList = true) (x : ByteArray) (hx : (⟨(inner s.data.toList).toArray⟩ : ByteArray) = x) (w : World) : Calls Tryz.prog 175 #[.string s] w fun e w' => e = .returned (.tuple #[.string x, .bool true]) ∧ w = w' := by
  have h2 : 2 ≤ s.size := brk_size _ h
  have HX := Lib.hid (show s.extract 1 (s.size - 1) = x by
    rw [← hx]
    apply ByteArray.ext
    apply Array.toList_inj.1
    show _ = inner s.data.toList
    rw [Ascii.extract_list]
    rfl)
  have cP := Lib.hid (fun u => Tryz.strings_HasPrefix s ⟨#[91]⟩ u)
  have cS := Lib.hid (fun u => Tryz.strings_HasSuffix s ⟨#[93]⟩ u (by omega))
  rw [show (⟨#[91]⟩ : ByteArray).data.toList = [91] from rfl] at cP
  rw [show (⟨#[93]⟩ : ByteArray).data.toList = [93] from rfl] at cS
  unfold brkB at h
  rw [Bool.and_eq_true] at h
  rw [h.1] at cP
  rw [h.2] at cS
  clear h hx
  go_enter Tryz.func175, Tryz.ntmps175
  go_wp2_with fail
  refine (cP.out _).mono ?_
  rintro e u ⟨rfl, hu⟩
  rw [hu]
  go_wp2_with fail
  refine (cS.out _).mono ?_
  rintro e v ⟨rfl, hv⟩
  rw [hv]
  clear hu hv
  go_wp2
  go_ret2
  exact ⟨by rw [← HX.out]; rfl, rfl⟩
/-! ### read -/

set_option maxRecDepth 100000 in
set_option maxHeartbeats 2000000 in
theorem read_brk (s : ByteArray) (hs : s.size ≤ 30000) (h : brkB s.data.toList = true) (p : List Int) (c : Bool) (hp : Six.parI (inner s.data.toList) = p) (hc : Six.parB (inner s.data.toList) = c) (m : Int) (w : World) (hm : Six.At m w) :
    Calls Tryz.prog 156 #[.string s] w fun e w' => e = .returned (.tuple #[.iface 113 (.agg (arr p)), .bool c]) ∧ Below w.heap.size w w' := by
  obtain ⟨x, hx⟩ : ∃ x : ByteArray, (⟨(inner s.data.toList).toArray⟩ : ByteArray) = x := ⟨_, rfl⟩
  have hxl : x.data.toList = inner s.data.toList := by rw [← hx]
  have hxs : x.size ≤ 30000 := by
    have e1 : x.size = (inner s.data.toList).length := by rw [← hx]; rfl
    have e2 : s.data.toList.length = s.size := rfl
    rw [e1]
    unfold inner
    rw [List.length_drop, List.length_take]
    omega
  have cB := Lib.hid (fun u => brk_yes s (by omega) h x hx u)
  have cP := Lib.hid (fun u (hu : Six.At m u) => Six.parse_any x (by omega) p c (by rw [hxl]; exact hp) (by rw [hxl]; exact hc) m u hu)
  have hp8 : p.length = 8 := by
    rw [← hp]
    cases e : Six.parB (inner s.data.toList)
    · unfold Six.parI; rw [e]; rfl
    · exact (Six.par_may _ e).1
  have HP8 := Lib.hid hp8
  have HM := Lib.hid hm
  have HZ := Lib.hid (fun u : World => RowAt.new u zero8)
  clear hm hp hc hx hxl hp8 h
  go_enter Tryz.func156, Tryz.ntmps156
  go_wp2_with fail
  refine (cB.out _).mono ?_
  rintro e u1 ⟨rfl, rfl⟩
  go_wp2_with fail
  refine (cP.out _ HM.out).mono ?_
  rintro e u2 ⟨rfl, hB2⟩
  have HB2 := Lib.hid hB2
  have hBn : Below u2.heap.size u2 ((u2.alloc (.cells (arr zero8) 22)).setRow u2.heap.size (arr p)) := Six.below_setRow ((Below.refl _ u2).alloc (Nat.le_refl _) _) (Nat.le_refl _) _
  have HBn := Lib.hid hBn
  have HR := Lib.hid ((HZ.out u2).row p)
  clear hB2 hBn cB cP
  go_wp2_with (first
    | refine Six.wp_store22 rfl _ _ rfl u2.heap.size rfl p rfl HP8.out zero8 rfl (HZ.out _) ?_
    | refine Six.wp_load22 rfl _ rfl u2.heap.size rfl p HP8.out HR.out ?_)
  go_ret2
  exact ⟨rfl, Ascii.below2 HB2.out HBn.out⟩

set_option maxRecDepth 100000 in
set_option maxHeartbeats 2000000 in
theorem read_num (s : ByteArray) (hs : s.size ≤ 30000) (h : brkB s.data.toList = false) (hl : Four.lookB s.data.toList = true) (n : Int) (c : Bool) (hn : Four.parI s.data.toList = n) (hc : Four.parB s.data.toList = c) (m : Int) (w : World) (hm : Six.At m w) :
    Calls Tryz.prog 156 #[.string s] w fun e w' => e = .returned (.tuple #[.iface 112 (.int .i64 n), .bool c]) ∧ Below w.heap.size w w' := by
  have cB := Lib.hid (fun u => brk_no s (by omega) h u)
  have cL := Lib.hid (fun u => Four.looks_at s (by omega) true hl u)
  have cP := Lib.hid (Four.parse_at s (by omega) n c hn hc m w hm.max)
  clear hm hn hc h hl
  go_enter Tryz.func156, Tryz.ntmps156
  go_wp2_with fail
  refine (cB.out _).mono ?_
  rintro e u1 ⟨rfl, rfl⟩
  go_wp2_with fail
  refine (cL.out _).mono ?_
  rintro e u1 ⟨rfl, rfl⟩
  go_wp2_with fail
  refine cP.out.mono ?_
  rintro e u2 ⟨rfl, hB2⟩
  go_wp2
  go_ret2
  exact ⟨rfl, hB2⟩

set_option maxRecDepth 100000 in
set_option maxHeartbeats 2000000 in
theorem read_dom (s : ByteArray) (hs : s.size ≤ 30000) (h : brkB s.data.toList = false) (hl : Four.lookB s.data.toList = false) (x : ByteArray) (c : Bool) (hx : (⟨(Ascii.lower s.data.toList).toArray⟩ : ByteArray) = x) (hc : domB (Ascii.lower s.data.toList) = c) (m : Int) (w : World) (hm : Six.At m w) :
    Calls Tryz.prog 156 #[.string s] w fun e w' => e = .returned (.tuple #[.iface 111 (.string x), .bool c]) ∧ Below w.heap.size w w' := by
  have cB := Lib.hid (fun u => brk_no s (by omega) h u)
  have cL := Lib.hid (fun u => Four.looks_at s (by omega) false hl u)
  have cLow := Lib.hid (fun u => Ascii.lower_calls s (by unfold maxLen; omega) (by omega) u)
  rw [hx] at cLow
  have hxs : x.size ≤ 30000 := by
    have e1 : x.size = (Ascii.lower s.data.toList).length := by rw [← hx]; rfl
    have e2 : s.data.toList.length = s.size := rfl
    rw [e1]; unfold Ascii.lower; rw [List.length_map]; omega
  have cD := Lib.hid (fun u (hu : Six.At m u) => dmay_any x (by omega) c (by rw [← hx]; exact hc) m u hu)
  have HM := Lib.hid hm
  clear hm hx hc h hl
  go_enter Tryz.func156, Tryz.ntmps156
  go_wp2_with fail
  refine (cB.out _).mono ?_
  rintro e u1 ⟨rfl, rfl⟩
  go_wp2_with fail
  refine (cL.out _).mono ?_
  rintro e u1 ⟨rfl, rfl⟩
  go_wp2_with fail
  refine (cLow.out _).mono ?_
  rintro e u2 ⟨rfl, hB2⟩
  have HB2 := Lib.hid hB2
  clear hB2
  go_wp2_with fail
  refine (cD.out _ (HM.out.later HB2.out)).mono ?_
  rintro e u3 ⟨rfl, hB3⟩
  go_wp2
  go_ret2
  exact ⟨rfl, Ascii.below2 HB2.out hB3⟩



structure H where
  k : Int
  s : ByteArray
  n : Int
  p : List Int

def H.cells (h : H) : Array Value := cH h.k h.s h.n h.p

def none0 : H := ⟨0, ⟨#[]⟩, 0, zero8⟩

theorem H.size (h : H) (h8 : h.p.length = 8) : h.cells.size = 11 := cH_size _ _ _ _ h8

theorem H.one (h : H) : h.cells.all (·.oneCell') = true := by
  rw [Array.all_eq_true_iff_forall_mem]
  intro v hv
  simp [H.cells, cH] at hv
  rcases hv with rfl | rfl | rfl | ⟨z, _, rfl⟩ <;> rfl

/-- Block g is this host. -/
def HostAt (W : World) (g : Nat) (h : H) : Prop := W.heap[g]? = some (.cells h.cells 24 (0, 0))

theorem HostAt.lt {w : World} {g : Nat} {h : H} (a : HostAt w g h) : g < w.heap.size := (Array.getElem?_eq_some_iff.1 a).1

theorem HostAt.new (w : World) (h : H) : HostAt (w.alloc (.cells h.cells 24)) w.heap.size h := heap_alloc_new w _

theorem HostAt.past {w : World} {g : Nat} {h : H} (a : HostAt w g h) (o : Obj) : HostAt (w.alloc o) g h := (heap_alloc_old w o a.lt).trans a

theorem HostAt.row {W : World} {g : Nat} {h : H} (a : HostAt W g h) (k : H) : HostAt (W.setRow g k.cells) g k := setRow_heap W g _ _ 24 (0, 0) a

theorem HostAt.below {w u : World} {B g : Nat} {h : H} (a : HostAt w g h) (hB : Below B w u) (hg : g < B) : HostAt u g h := (hB.block g hg).trans a

theorem HostAt.later {w u : World} {g : Nat} {h : H} (a : HostAt w g h) (hB : Below w.heap.size w u) : HostAt u g h := a.below hB a.lt

theorem HostAt.load {w : World} {g : Nat} {h : H} (a : HostAt w g h) (h8 : h.p.length = 8) : (loadVar 24 ⟨g, 0, none⟩).run Tryz.prog w = .ok (.agg h.cells) w :=
  run_loadVar_row w g 24 24 h.cells (0, 0) _ a Tryz.underlying24 rfl (by rw [h.size h8]; exact size24)

theorem HostAt.cell {w : World} {g : Nat} {h : H} (a : HostAt w g h) (j : Nat) : w.cell? ⟨g, j, none⟩ = h.cells[j]? := cell_of_row w g j h.cells 24 (0, 0) a

theorem wp_load24 {ops : Array Oper} {rest : List Oper} {o : Oper} {a : Act} {w : World} {Q : Exit → Act → World → Prop} (hgd : Region.wanted o (yielded ops a.tmps) = true) (x : Operand) (ho : o.op = .load 24 x) (g : Nat) (hx : a.eval x = .pointer (some ⟨g, 0, none⟩))
    (h : H) (h8 : h.p.length = 8) (hr : HostAt w g h) (hk : wpList Tryz.prog ops Q rest (a.put o.dst (.agg h.cells)) w) : wpList Tryz.prog ops Q (o :: rest) a w :=
  Six.wpList_taken hgd fun _ hK => wp_load_row 24 x ho g hx 24 h.cells (0, 0) _ hr Tryz.underlying24 rfl (by rw [h.size h8]; exact size24) (hK _ _ hk)

theorem wp_store24 {ops : Array Oper} {rest : List Oper} {o : Oper} {a : Act} {w : World} {Q : Exit → Act → World → Prop} (hgd : o.guard = none) (x y : Operand) (ho : o.op = .store 24 x y) (g : Nat) (hx : a.eval x = .pointer (some ⟨g, 0, none⟩))
    (k : H) (hy : a.eval y = .agg k.cells) (k8 : k.p.length = 8) (l : H) (h8 : l.p.length = 8) (hr : HostAt w g l) (h : wpList Tryz.prog ops Q rest (a.put o.dst undef) (w.setRow g k.cells)) : wpList Tryz.prog ops Q (o :: rest) a w :=
  wpList_plain hgd fun _ hK => wp_store_row 24 x y ho g k.cells hx hy 24 l.cells hr (by rw [k.size k8]; exact size24) (by rw [k.size k8, l.size h8]) k.one (hK _ _ h)

theorem ret_parse {tmps : Array Value} {W : World} (g : Nat) (h : H) (h8 : h.p.length = 8) (b : Bool) (hp : tmps.getD 2 undef = .pointer (some ⟨g, 0, none⟩)) (hb : tmps.getD 3 undef = .bool b) (hr : HostAt W g h) :
    (results Tryz.f126 tmps).run Tryz.prog W = .ok (.tuple #[.agg h.cells, .bool b]) W := by
  have hp' : tmps[2]?.getD undef = .pointer (some ⟨g, 0, none⟩) := by simpa using hp
  have hb' : tmps[3]?.getD undef = .bool b := by simpa using hb
  simp [results, Tryz.results126, hp', hb', asAddr, hr.load h8]

theorem below_row {B : Nat} {a w : World} (h : Below B a w) {g : Nat} (hp : B ≤ g) (k : Array Value) : Below B a (w.setRow g k) := Six.below_setRow h hp k

/-- What a text tells. -/
def okH (l : List UInt8) : Bool := if brkB l then Six.parB (inner l) else if Four.lookB l then Four.parB l else domB (Ascii.lower l)

def parH (l : List UInt8) : H := if okH l then (if brkB l then ⟨3, ⟨#[]⟩, 0, Six.parI (inner l)⟩ else if Four.lookB l then ⟨2, ⟨#[]⟩, Four.parI l, zero8⟩ else ⟨1, ⟨(Ascii.lower l).toArray⟩, 0, zero8⟩) else none0

set_option maxRecDepth 100000 in
set_option maxHeartbeats 2000000 in
/-- Parse, read told. -/
theorem parse_in (s : ByteArray) (v : Value) (c : Bool) (h : H) (h8 : h.p.length = 8) (m : Int) (w : World) (hm : Six.At m w)
    (cR : ∀ u, Six.At m u → Calls Tryz.prog 156 #[.string s] u fun e w' => e = .returned (.tuple #[v, .bool c]) ∧ Below u.heap.size u w')
    (cW : ∀ u, Calls Tryz.prog 137 #[v] u fun e w' => e = .returned (.agg h.cells) ∧ Below u.heap.size u w') :
    Calls Tryz.prog 126 #[.string s] w fun e w' => e = .returned (.tuple #[.agg (if c then h else none0).cells, .bool c]) ∧ Below w.heap.size w w' := by
  have HB0 := Lib.hid (show Below w.heap.size w (w.alloc (.cells none0.cells 24)) from (Below.refl _ w).alloc (Nat.le_refl _) _)
  have HR0 := Lib.hid (HostAt.new w none0)
  have HM := Lib.hid hm
  have CR := Lib.hid cR
  have CW := Lib.hid cW
  have H8 := Lib.hid h8
  have hz : (#[.int .i64 0, .string ⟨#[]⟩, .int .i64 0, .int .i64 0, .int .i64 0, .int .i64 0, .int .i64 0, .int .i64 0, .int .i64 0, .int .i64 0, .int .i64 0] : Array Value) = none0.cells := rfl
  have HZ := Lib.hid hz
  clear hm cR cW h8 hz
  go_enter Tryz.func126, Tryz.ntmps126
  go_wp2_with fail
  rw [HZ.out]
  generalize w.alloc (.cells none0.cells 24) = W at HB0 HR0 ⊢
  refine (CR.out _ (HM.out.later HB0.out)).mono ?_
  rintro e u1 ⟨rfl, hB1⟩
  have HB1 := Lib.hid hB1
  have HR1 := Lib.hid (HR0.out.later hB1)
  clear hB1 HR0 CR
  cases c
  · have HRn := Lib.hid (HR1.out.row none0)
    go_wp2_with (refine wp_store24 rfl _ _ rfl w.heap.size rfl none0 rfl rfl none0 rfl HR1.out ?_)
    exact bodyPost_ret (ret_parse w.heap.size none0 rfl false rfl rfl HRn.out) rfl ⟨rfl, below_row (Ascii.below2 HB0.out HB1.out) (Nat.le_refl _) _⟩
  · go_wp2_with fail
    refine (CW.out _).mono ?_
    rintro e u2 ⟨rfl, hB2⟩
    have HB2 := Lib.hid hB2
    have HR2 := Lib.hid (HR1.out.later hB2)
    have HRn := Lib.hid (HR2.out.row h)
    clear hB2 CW
    go_wp2_with (refine wp_store24 rfl _ _ rfl w.heap.size rfl h rfl H8.out none0 rfl HR2.out ?_)
    exact bodyPost_ret (ret_parse w.heap.size h H8.out true rfl rfl HRn.out) rfl ⟨rfl, below_row (Ascii.below3 HB0.out HB1.out HB2.out) (Nat.le_refl _) _⟩

theorem parI_len (l : List UInt8) : (Six.parI l).length = 8 := by
  cases h : Six.parB l
  · unfold Six.parI; rw [h]; rfl
  · exact (Six.par_may l h).1

theorem parH_len (l : List UInt8) : (parH l).p.length = 8 := by
  unfold parH
  split
  · split
    · exact parI_len _
    · split <;> rfl
  · rfl

/-- Parse, of any text. -/
theorem parse_any (s : ByteArray) (hs : s.size ≤ 30000) (h : H) (b : Bool) (hh : parH s.data.toList = h) (hb : okH s.data.toList = b) (m : Int) (w : World) (hm : Six.At m w) :
    Calls Tryz.prog 126 #[.string s] w fun e w' => e = .returned (.tuple #[.agg h.cells, .bool b]) ∧ Below w.heap.size w w' := by
  subst hh; subst hb
  unfold parH okH
  cases h1 : brkB s.data.toList
  · cases h2 : Four.lookB s.data.toList
    · exact parse_in s _ _ ⟨1, _, 0, zero8⟩ rfl m w hm (fun u hu => read_dom s hs h1 h2 _ _ rfl rfl m u hu) (fun u => whole_dom _ u)
    · exact parse_in s _ _ ⟨2, ⟨#[]⟩, _, zero8⟩ rfl m w hm (fun u hu => read_num s hs h1 h2 _ _ rfl rfl m u hu) (fun u => whole_num _ u)
  · exact parse_in s _ _ ⟨3, ⟨#[]⟩, 0, _⟩ (parI_len _) m w hm (fun u hu => read_brk s hs h1 _ _ rfl rfl m u hu) (fun u => whole_six _ (parI_len _) u)



/-- A whole value read, the same in every world of the class. -/
theorem quiet_load {P : Program} {C : World → Prop} {o : Oper} {a : Act} {K : Act → Prop} (ty : TypeId) (x : Operand) (ho : o.op = .load ty x) (p : Addr) (hx : a.eval x = .pointer (some p)) (v : Value) (hr : ∀ u, C u → (loadVar ty p).run P u = .ok v u) (hk : K (a.put o.dst v)) : o.quiet P a C K :=
  ⟨_, fun w hw => by
    unfold Oper.quietAt execOp
    simp only [ho, hx, Instr.loadAt, Instr.sureAddr, Sem.run_bind, Sem.run_pure, Result.andThen_ok, hr w hw]
    exact ⟨rfl, rfl⟩, hk⟩

theorem wp_load_of {P : Program} {o : Oper} {a : Act} {w : World} {K : Act → World → Prop} {Q : Exit → Act → World → Prop} (ty : TypeId) (x : Operand) (ho : o.op = .load ty x) (p : Addr) (hx : a.eval x = .pointer (some p)) (v : Value) (hr : (loadVar ty p).run P w = .ok v w)
    (h : K (a.put o.dst v) w) : o.wp P a w K Q := by
  unfold Oper.wp execOp
  simp only [ho, hx, Instr.loadAt, Instr.sureAddr, Sem.run_bind, Sem.run_pure, Result.andThen_ok, hr]
  exact h

theorem wp_load_at {P : Program} {ops : Array Oper} {rest : List Oper} {o : Oper} {a : Act} {w : World} {Q : Exit → Act → World → Prop} (hgd : Region.wanted o (yielded ops a.tmps) = true) (ty : TypeId) (x : Operand) (ho : o.op = .load ty x) (p : Addr) (hx : a.eval x = .pointer (some p)) (v : Value) (hr : (loadVar ty p).run P w = .ok v w)
    (h : wpList P ops Q rest (a.put o.dst v) w) : wpList P ops Q (o :: rest) a w :=
  Six.wpList_taken hgd fun _ hK => wp_load_of ty x ho p hx v hr (hK _ _ h)
/-! ### Compared -/

theorem cells_at (h : H) : h.cells[0]? = some (.int .i64 h.k) ∧ h.cells[1]? = some (.string h.s) ∧ h.cells[2]? = some (.int .i64 h.n) := ⟨rfl, rfl, rfl⟩

theorem cells_six (h : H) (h8 : h.p.length = 8) : h.cells.extract 3 11 = arr h.p := by
  obtain ⟨k, s, n, p⟩ := h
  match p, h8 with
  | [a0, a1, a2, a3, a4, a5, a6, a7], _ => rfl

theorem cells_sixat (h : H) (j : Nat) : h.cells[3 + j]? = (arr h.p)[j]? := by
  simp [H.cells, cH, arr, Nat.add_comm 3 j]

theorem part_k (h : H) (w : World) : (part 3 h.cells 0).run Tryz.prog w = .ok (.int .i64 h.k) w := by
  have ha : (isAgg 3).run Tryz.prog w = .ok false w := by kernel_rfl
  simp [part, Sem.run_bind, ha, (cells_at h).1]

theorem part_n (h : H) (w : World) : (part 3 h.cells 2).run Tryz.prog w = .ok (.int .i64 h.n) w := by
  have ha : (isAgg 3).run Tryz.prog w = .ok false w := by kernel_rfl
  simp [part, Sem.run_bind, ha, (cells_at h).2.2]

theorem part_s (h : H) (w : World) : (part 9 h.cells 1).run Tryz.prog w = .ok (.string h.s) w := by
  have ha : (isAgg 9).run Tryz.prog w = .ok false w := by kernel_rfl
  simp [part, Sem.run_bind, ha, (cells_at h).2.1]

theorem part_p (h : H) (h8 : h.p.length = 8) (w : World) : (part 22 h.cells 3).run Tryz.prog w = .ok (.agg (arr h.p)) w := by
  have ha : (isAgg 22).run Tryz.prog w = .ok true w := by kernel_rfl
  have hs : (sizeOf 22).run Tryz.prog w = .ok 8 w := by kernel_rfl
  simp [part, Sem.run_bind, ha, hs, cells_six h h8]

set_option maxRecDepth 100000 in
theorem eq22d (p q : List Int) (hp : p.length = 8) (hq : q.length = 8) (w : World) : (Op.equalIn 9999 22 (.agg (arr p)) (.agg (arr q))).run Tryz.prog w = .ok (decide (p = q)) w := by
  obtain ⟨i, hi⟩ : ∃ i, Tryz.prog.info? 3 = some i := by
    cases e : Tryz.prog.info? 3 with
    | some i => exact ⟨i, rfl⟩
    | none =>
      have : (Tryz.prog.info? 3).isSome = true := by kernel_rfl
      rw [e] at this
      cases this
  rw [show (9999 : Nat) = 9998 + 1 from rfl, run_equalIn_array w 9998 (arr p) (arr q) Tryz.underlying22 hi, show Tryz.prog.cellsOf 3 = 1 by kernel_rfl, Six.items3 9997 p q (by omega) _ (by intro j hj; simp at hj; omega)]
  congr 1
  match p, hp, q, hq with
  | [a0, a1, a2, a3, a4, a5, a6, a7], _, [b0, b1, b2, b3, b4, b5, b6, b7], _ => simp [List.range, List.range.loop]; rfl

def sameH (h k : H) : Bool := (h.k == k.k) && ((h.s.toList == k.s.toList) && ((h.n == k.n) && decide (h.p = k.p)))

theorem same_iff (h k : H) : sameH h k = true ↔ h = k := by
  unfold sameH
  rw [Bool.and_eq_true, Bool.and_eq_true, Bool.and_eq_true, beq_iff_eq, beq_iff_eq, beq_iff_eq, decide_eq_true_iff, toList_ba, toList_ba]
  constructor
  · rintro ⟨h1, h2, h3, h4⟩
    obtain ⟨a, b, c, d⟩ := h
    obtain ⟨a', b', c', d'⟩ := k
    simp only at h1 h2 h3 h4
    subst h1; subst h3; subst h4
    congr
    apply ByteArray.ext
    exact Array.toList_inj.1 h2
  · rintro rfl; exact ⟨rfl, rfl, rfl, rfl⟩

set_option maxRecDepth 100000 in
theorem eq24 (h k : H) (h8 : h.p.length = 8) (k8 : k.p.length = 8) (b : Bool) (hb : sameH h k = b) (w : World) : (Op.equalIn 10000 24 (.agg h.cells) (.agg k.cells)).run Tryz.prog w = .ok b w := by
  have hf : (Tryz.prog.fieldsOf 24).toList = [{ name := "Kind", type := 3, offset := 0, embedded := false, tag := "", pkgPath := "", byteOffset := 0 }, { name := "Name", type := 9, offset := 1, embedded := false, tag := "", pkgPath := "", byteOffset := 8 }, { name := "Num", type := 3, offset := 2, embedded := false, tag := "", pkgPath := "", byteOffset := 24 }, { name := "Six", type := 22, offset := 3, embedded := false, tag := "", pkgPath := "", byteOffset := 32 }] := by
    unfold Program.fieldsOf
    rw [Tryz.underlying24]
  subst hb
  rw [show (10000 : Nat) = 9999 + 1 from rfl, run_equalIn_struct w 9999 24 _ _ (by kernel_rfl) (by kernel_rfl), hf]
  have e3 : ∀ u : World, (Op.equalIn 9999 3 (.int .i64 h.k) (.int .i64 k.k)).run Tryz.prog u = .ok (h.k == k.k) u := fun u => run_equalIn_int u 9998 3 .i64 .i64 _ _ Tryz.underlying3
  have e3' : ∀ u : World, (Op.equalIn 9999 3 (.int .i64 h.n) (.int .i64 k.n)).run Tryz.prog u = .ok (h.n == k.n) u := fun u => run_equalIn_int u 9998 3 .i64 .i64 _ _ Tryz.underlying3
  have e9 : ∀ u : World, (Op.equalIn 9999 9 (.string h.s) (.string k.s)).run Tryz.prog u = .ok (h.s.toList == k.s.toList) u := fun u => run_equalIn_string u 9998 9 _ _ Tryz.underlying9
  have e22 := eq22d h.p k.p h8 k8
  have q1 := part_p h h8
  have q2 := part_p k k8
  have n1 : ("Kind" : String) ≠ "_" := by decide
  have n2 : ("Name" : String) ≠ "_" := by decide
  have n3 : ("Num" : String) ≠ "_" := by decide
  have n4 : ("Six" : String) ≠ "_" := by decide
  unfold sameH
  generalize (h.k == k.k) = b1 at e3 ⊢
  generalize (h.n == k.n) = b2 at e3' ⊢
  generalize (h.s.toList == k.s.toList) = b3 at e9 ⊢
  generalize decide (h.p = k.p) = b4 at e22 ⊢
  simp only [Op.eqFields, if_pos n1, if_pos n2, if_pos n3, if_pos n4, Sem.run_bind, part_k, part_n, part_s, q1, q2, Result.andThen_ok, e3]
  cases b1 <;> cases b2 <;> cases b3 <;> cases b4 <;> simp [part_n, part_s, q1, q2, e3', e9, e22]
/-! ### told -/

theorem method42 (s : ByteArray) (w : World) (n : Nat) : (method (n + 1) 111 (.string s) "postmark/host.may").run Tryz.prog w = .ok (179, .string s) w := by kernel_rfl

theorem method44 (z : Int) (w : World) (n : Nat) : (method (n + 1) 112 (.int .i64 z) "postmark/host.may").run Tryz.prog w = .ok (244, .int .i64 z) w := by kernel_rfl

theorem method46 (p : Array Value) (w : World) (n : Nat) : (method (n + 1) 113 (.agg p) "postmark/host.may").run Tryz.prog w = .ok (245, .agg p) w := by kernel_rfl

theorem HostAt.six {w : World} {g : Nat} {h : H} (a : HostAt w g h) (h8 : h.p.length = 8) : (loadVar 22 ⟨g, 3, none⟩).run Tryz.prog w = .ok (.agg (arr h.p)) w := by
  have hl : (loadCells ⟨g, 3, none⟩ (arr h.p).toList.length).run Tryz.prog w = .ok (arr h.p).toList.toArray w :=
    run_loadCells_list (P := Tryz.prog) w ⟨g, 3, none⟩ (arr h.p).toList (fun j v hv => by
      have hadd : (⟨g, 3, none⟩ : Addr).add j = ⟨g, 3 + j, none⟩ := by unfold Addr.add; split <;> simp_all
      rw [hadd, a.cell, cells_sixat]
      simpa using hv)
  have hagg : (isAgg 22).run Tryz.prog w = .ok true w := by kernel_rfl
  have hsz : (sizeOf 22).run Tryz.prog w = .ok 8 w := by kernel_rfl
  have hlen : (arr h.p).toList.length = 8 := by rw [Array.length_toList, Six.arr_size, h8]
  rw [hlen] at hl
  simp [loadVar, Sem.run_bind, hagg, hsz, hl]

set_option maxRecDepth 100000 in
set_option maxHeartbeats 4000000 in
theorem told_dom (s : ByteArray) (n : Int) (p : List Int) (h8 : p.length = 8) (hs : s.size ≤ 1000) (b1 b2 : Bool) (hb1 : sameH ⟨1, s, n, p⟩ ⟨1, s, 0, zero8⟩ = b1) (hb2 : domB s.data.toList = b2) (m : Int) (w : World) (hm : Six.At m w) :
    Calls Tryz.prog 109 #[.agg (H.cells ⟨1, s, n, p⟩)] w fun e w' => e = .returned (if b1 && b2 then .iface 111 (.string s) else .nilIface) ∧ Below w.heap.size w w' := by
  have c0 : (H.cells ⟨1, s, n, p⟩)[0]? = some (.int .i64 1) := rfl
  have c1 : (H.cells ⟨1, s, n, p⟩)[1]? = some (.string s) := rfl
  have c2 : (H.cells ⟨1, s, n, p⟩)[2]? = some (.int .i64 n) := rfl
  have HB0 := Lib.hid (show Below w.heap.size w (w.alloc (.cells (H.cells ⟨1, s, n, p⟩) 24)) from (Below.refl _ w).alloc (Nat.le_refl _) _)
  have HR0 := Lib.hid (HostAt.new w ⟨1, s, n, p⟩)
  have heq := fun u => eq24 ⟨1, s, n, p⟩ ⟨1, s, 0, zero8⟩ h8 (by first | rfl | exact h8) b1 hb1 u
  have HL := Lib.hid (fun u (hu : HostAt u w.heap.size ⟨1, s, n, p⟩) => hu.load h8)
  have HSx := Lib.hid (fun u (hu : HostAt u w.heap.size ⟨1, s, n, p⟩) => hu.six h8)
  have cW := Lib.hid (fun u => whole_dom s u)
  have cD := Lib.hid (fun u (hu : Six.At m u) => dmay_any s (by omega) b2 hb2 m u hu)
  have HM := Lib.hid (hm.later HB0.out)
  have hmt := fun u => method42 s u 318
  rw [show cH 1 s 0 zero8 = H.cells ⟨1, s, 0, zero8⟩ from rfl] at cW
  generalize H.cells ⟨1, s, n, p⟩ = Cs at c0 c1 c2 heq HB0 HL HM HR0 ⊢
  generalize H.cells ⟨1, s, 0, zero8⟩ = Ds at heq cW
  clear hb1 hb2 h8 hs hm
  go_enter Tryz.func109, Tryz.ntmps109
  go_wp2
  generalize w.alloc (.cells Cs 24) = W at HB0 HR0 HM ⊢
  clear c0 c1 c2 HSx
  have hany : ∀ p : Prop, (∀ u, Below W.heap.size W u → p) ↔ p := fun p => ⟨fun h => h _ (Below.refl _ _), fun h _ _ => h⟩
  cases b1
  · refine Ascii.wp_region_quiet_below (by kernel_rfl) (by kernel_rfl) ?_
    ((go_big_quiet_want; (with_reducible refine quiet_load (o := ⟨some 21, .load 24 (.tmp 1), _, _, _, _⟩) 24 (.tmp 1) ?_ ⟨w.heap.size, 0, none⟩ ?_ (.agg Cs) ?_ ?_); (· rfl); (· rfl); (· exact fun u hu => HL.out u (HR0.out.later hu))); go_big_quiet_on; simp only [Act.put, List.setIfInBounds_toArray, List.set_cons_succ, List.set_cons_zero])
    repeat (go_big_quiet_step ((intro hu; go_at_call 137; exact (cW.out _).mono fun e u' h => ⟨h.1, hu.trans (h.2.mono hu.size)⟩)))
    refine wpQuiet_nil ?_
    intro u hu
    go_wp2
    go_ret
    exact ⟨rfl, Ascii.below2 HB0.out hu⟩
  · refine Ascii.wp_region_quiet_below (by kernel_rfl) (by kernel_rfl) ?_
    ((go_big_quiet_want; (with_reducible refine quiet_load (o := ⟨some 21, .load 24 (.tmp 1), _, _, _, _⟩) 24 (.tmp 1) ?_ ⟨w.heap.size, 0, none⟩ ?_ (.agg Cs) ?_ ?_); (· rfl); (· rfl); (· exact fun u hu => HL.out u (HR0.out.later hu))); go_big_quiet_on; simp only [Act.put, List.setIfInBounds_toArray, List.set_cons_succ, List.set_cons_zero])
    iterate 5 (go_big_quiet_step ((intro hu; go_at_call 137; exact (cW.out _).mono fun e u' h => ⟨h.1, hu.trans (h.2.mono hu.size)⟩)))
    go_big_quiet_step ((intro hu; go_at_call 179; exact (cD.out _ (HM.out.later hu)).mono fun e u' h => ⟨h.1, hu.trans (h.2.mono hu.size)⟩))
    repeat (go_big_quiet_step (fail))
    refine wpQuiet_nil ?_
    intro u hu
    cases b2
    · go_wp2
      go_ret
      exact ⟨rfl, Ascii.below2 HB0.out hu⟩
    · go_wp2
      go_ret
      exact ⟨rfl, Ascii.below2 HB0.out hu⟩

set_option maxRecDepth 100000 in
set_option maxHeartbeats 4000000 in
theorem told_num (s : ByteArray) (n : Int) (p : List Int) (h8 : p.length = 8) (hs : s.size ≤ 1000) (b1 b2 : Bool) (hb1 : sameH ⟨2, s, n, p⟩ ⟨2, ⟨#[]⟩, n, zero8⟩ = b1) (hb2 : Four.fitsB n = b2) (m : Int) (w : World) (hm : Six.At m w) :
    Calls Tryz.prog 109 #[.agg (H.cells ⟨2, s, n, p⟩)] w fun e w' => e = .returned (if b1 && b2 then .iface 112 (.int .i64 n) else .nilIface) ∧ Below w.heap.size w w' := by
  have c0 : (H.cells ⟨2, s, n, p⟩)[0]? = some (.int .i64 2) := rfl
  have c1 : (H.cells ⟨2, s, n, p⟩)[1]? = some (.string s) := rfl
  have c2 : (H.cells ⟨2, s, n, p⟩)[2]? = some (.int .i64 n) := rfl
  have HB0 := Lib.hid (show Below w.heap.size w (w.alloc (.cells (H.cells ⟨2, s, n, p⟩) 24)) from (Below.refl _ w).alloc (Nat.le_refl _) _)
  have HR0 := Lib.hid (HostAt.new w ⟨2, s, n, p⟩)
  have heq := fun u => eq24 ⟨2, s, n, p⟩ ⟨2, ⟨#[]⟩, n, zero8⟩ h8 (by first | rfl | exact h8) b1 hb1 u
  have HL := Lib.hid (fun u (hu : HostAt u w.heap.size ⟨2, s, n, p⟩) => hu.load h8)
  have HSx := Lib.hid (fun u (hu : HostAt u w.heap.size ⟨2, s, n, p⟩) => hu.six h8)
  have cW := Lib.hid (fun u => whole_num n u)
  have cD := Lib.hid (fun u => nmay_any n b2 hb2 u)
  have HM := Lib.hid (hm.later HB0.out)
  have hmt := fun u => method44 n u 318
  rw [show cH 2 ⟨#[]⟩ n zero8 = H.cells ⟨2, ⟨#[]⟩, n, zero8⟩ from rfl] at cW
  generalize H.cells ⟨2, s, n, p⟩ = Cs at c0 c1 c2 heq HB0 HL HM HR0 ⊢
  generalize H.cells ⟨2, ⟨#[]⟩, n, zero8⟩ = Ds at heq cW
  clear hb1 hb2 h8 hs hm
  go_enter Tryz.func109, Tryz.ntmps109
  go_wp2
  generalize w.alloc (.cells Cs 24) = W at HB0 HR0 HM ⊢
  clear c0 c1 c2 HSx
  have hany : ∀ p : Prop, (∀ u, Below W.heap.size W u → p) ↔ p := fun p => ⟨fun h => h _ (Below.refl _ _), fun h _ _ => h⟩
  cases b1
  · refine Ascii.wp_region_quiet_below (by kernel_rfl) (by kernel_rfl) ?_
    ((go_big_quiet_want; (with_reducible refine quiet_load (o := ⟨some 21, .load 24 (.tmp 1), _, _, _, _⟩) 24 (.tmp 1) ?_ ⟨w.heap.size, 0, none⟩ ?_ (.agg Cs) ?_ ?_); (· rfl); (· rfl); (· exact fun u hu => HL.out u (HR0.out.later hu))); go_big_quiet_on; simp only [Act.put, List.setIfInBounds_toArray, List.set_cons_succ, List.set_cons_zero])
    repeat (go_big_quiet_step ((intro hu; go_at_call 137; exact (cW.out _).mono fun e u' h => ⟨h.1, hu.trans (h.2.mono hu.size)⟩)))
    refine wpQuiet_nil ?_
    intro u hu
    go_wp2
    go_ret
    exact ⟨rfl, Ascii.below2 HB0.out hu⟩
  · refine Ascii.wp_region_quiet_below (by kernel_rfl) (by kernel_rfl) ?_
    ((go_big_quiet_want; (with_reducible refine quiet_load (o := ⟨some 21, .load 24 (.tmp 1), _, _, _, _⟩) 24 (.tmp 1) ?_ ⟨w.heap.size, 0, none⟩ ?_ (.agg Cs) ?_ ?_); (· rfl); (· rfl); (· exact fun u hu => HL.out u (HR0.out.later hu))); go_big_quiet_on; simp only [Act.put, List.setIfInBounds_toArray, List.set_cons_succ, List.set_cons_zero])
    iterate 5 (go_big_quiet_step ((intro hu; go_at_call 137; exact (cW.out _).mono fun e u' h => ⟨h.1, hu.trans (h.2.mono hu.size)⟩)))
    go_big_quiet_step ((intro hu; go_at_call 244; exact (cD.out _).mono fun e u' h => ⟨h.1, hu.trans (h.2.mono hu.size)⟩))
    repeat (go_big_quiet_step (fail))
    refine wpQuiet_nil ?_
    intro u hu
    cases b2
    · go_wp2
      go_ret
      exact ⟨rfl, Ascii.below2 HB0.out hu⟩
    · go_wp2
      go_ret
      exact ⟨rfl, Ascii.below2 HB0.out hu⟩

set_option maxRecDepth 100000 in
set_option maxHeartbeats 4000000 in
theorem told_six (s : ByteArray) (n : Int) (p : List Int) (h8 : p.length = 8) (hs : s.size ≤ 1000) (b1 b2 : Bool) (hb1 : sameH ⟨3, s, n, p⟩ ⟨3, ⟨#[]⟩, 0, p⟩ = b1) (hb2 : Six.mayP p = b2) (m : Int) (w : World) (hm : Six.At m w) :
    Calls Tryz.prog 109 #[.agg (H.cells ⟨3, s, n, p⟩)] w fun e w' => e = .returned (if b1 && b2 then .iface 113 (.agg (arr p)) else .nilIface) ∧ Below w.heap.size w w' := by
  have c0 : (H.cells ⟨3, s, n, p⟩)[0]? = some (.int .i64 3) := rfl
  have c1 : (H.cells ⟨3, s, n, p⟩)[1]? = some (.string s) := rfl
  have c2 : (H.cells ⟨3, s, n, p⟩)[2]? = some (.int .i64 n) := rfl
  have HB0 := Lib.hid (show Below w.heap.size w (w.alloc (.cells (H.cells ⟨3, s, n, p⟩) 24)) from (Below.refl _ w).alloc (Nat.le_refl _) _)
  have HR0 := Lib.hid (HostAt.new w ⟨3, s, n, p⟩)
  have heq := fun u => eq24 ⟨3, s, n, p⟩ ⟨3, ⟨#[]⟩, 0, p⟩ h8 (by first | rfl | exact h8) b1 hb1 u
  have HL := Lib.hid (fun u (hu : HostAt u w.heap.size ⟨3, s, n, p⟩) => hu.load h8)
  have HSx := Lib.hid (fun u (hu : HostAt u w.heap.size ⟨3, s, n, p⟩) => hu.six h8)
  have cW := Lib.hid (fun u => whole_six p h8 u)
  have cD := Lib.hid (fun u => pmay_any p h8 b2 hb2 u)
  have HM := Lib.hid (hm.later HB0.out)
  have hmt := fun u => method46 (arr p) u 318
  rw [show cH 3 ⟨#[]⟩ 0 p = H.cells ⟨3, ⟨#[]⟩, 0, p⟩ from rfl] at cW
  generalize H.cells ⟨3, s, n, p⟩ = Cs at c0 c1 c2 heq HB0 HL HM HR0 ⊢
  generalize H.cells ⟨3, ⟨#[]⟩, 0, p⟩ = Ds at heq cW
  clear hb1 hb2 h8 hs hm
  go_enter Tryz.func109, Tryz.ntmps109
  go_wp2_with ((with_reducible refine wp_load_at (o := ⟨some 19, .load 22 (.tmp 18), _, _, _, _⟩) ?_ 22 (.tmp 18) ?_ ⟨w.heap.size, 3, none⟩ ?_ (.agg (arr p)) (HSx.out _ HR0.out) ?_); (· rfl); (· rfl); (· rfl))
  generalize w.alloc (.cells Cs 24) = W at HB0 HR0 HM ⊢
  clear c0 c1 c2 HSx
  have hany : ∀ p : Prop, (∀ u, Below W.heap.size W u → p) ↔ p := fun p => ⟨fun h => h _ (Below.refl _ _), fun h _ _ => h⟩
  cases b1
  · refine Ascii.wp_region_quiet_below (by kernel_rfl) (by kernel_rfl) ?_
    ((go_big_quiet_want; (with_reducible refine quiet_load (o := ⟨some 21, .load 24 (.tmp 1), _, _, _, _⟩) 24 (.tmp 1) ?_ ⟨w.heap.size, 0, none⟩ ?_ (.agg Cs) ?_ ?_); (· rfl); (· rfl); (· exact fun u hu => HL.out u (HR0.out.later hu))); go_big_quiet_on; simp only [Act.put, List.setIfInBounds_toArray, List.set_cons_succ, List.set_cons_zero])
    repeat (go_big_quiet_step ((intro hu; go_at_call 137; exact (cW.out _).mono fun e u' h => ⟨h.1, hu.trans (h.2.mono hu.size)⟩)))
    refine wpQuiet_nil ?_
    intro u hu
    go_wp2
    go_ret
    exact ⟨rfl, Ascii.below2 HB0.out hu⟩
  · refine Ascii.wp_region_quiet_below (by kernel_rfl) (by kernel_rfl) ?_
    ((go_big_quiet_want; (with_reducible refine quiet_load (o := ⟨some 21, .load 24 (.tmp 1), _, _, _, _⟩) 24 (.tmp 1) ?_ ⟨w.heap.size, 0, none⟩ ?_ (.agg Cs) ?_ ?_); (· rfl); (· rfl); (· exact fun u hu => HL.out u (HR0.out.later hu))); go_big_quiet_on; simp only [Act.put, List.setIfInBounds_toArray, List.set_cons_succ, List.set_cons_zero])
    iterate 5 (go_big_quiet_step ((intro hu; go_at_call 137; exact (cW.out _).mono fun e u' h => ⟨h.1, hu.trans (h.2.mono hu.size)⟩)))
    go_big_quiet_step ((intro hu; go_at_call 245; exact (cD.out _).mono fun e u' h => ⟨h.1, hu.trans (h.2.mono hu.size)⟩))
    repeat (go_big_quiet_step (fail))
    refine wpQuiet_nil ?_
    intro u hu
    cases b2
    · go_wp2
      go_ret
      exact ⟨rfl, Ascii.below2 HB0.out hu⟩
    · go_wp2
      go_ret
      exact ⟨rfl, Ascii.below2 HB0.out hu⟩

set_option maxRecDepth 100000 in
set_option maxHeartbeats 2000000 in
theorem told_no (h : H) (k1 : (h.k == 1) = false) (k2 : (h.k == 2) = false) (k3 : (h.k == 3) = false) (w : World) :
    Calls Tryz.prog 109 #[.agg h.cells] w fun e w' => e = .returned .nilIface ∧ Below w.heap.size w w' := by
  have c0 : h.cells[0]? = some (.int .i64 h.k) := rfl
  have HB0 := Lib.hid (show Below w.heap.size w (w.alloc (.cells h.cells 24)) from (Below.refl _ w).alloc (Nat.le_refl _) _)
  generalize h.cells = Cs at c0 HB0
  generalize h.k = k at *
  go_enter Tryz.func109, Tryz.ntmps109
  go_wp2
  go_ret
  exact ⟨rfl, HB0.out⟩

/-- May a host be? -/
def mayH (h : H) : Bool := if h.k = 1 then sameH h ⟨1, h.s, 0, zero8⟩ && domB h.s.data.toList else if h.k = 2 then sameH h ⟨2, ⟨#[]⟩, h.n, zero8⟩ && Four.fitsB h.n else if h.k = 3 then sameH h ⟨3, ⟨#[]⟩, 0, h.p⟩ && Six.mayP h.p else false

/-- What it is. -/
def whatH (h : H) : Value := if mayH h then (if h.k = 1 then .iface 111 (.string h.s) else if h.k = 2 then .iface 112 (.int .i64 h.n) else .iface 113 (.agg (arr h.p))) else .nilIface

theorem told_any (h : H) (h8 : h.p.length = 8) (hs : h.s.size ≤ 1000) (v : Value) (hv : whatH h = v) (m : Int) (w : World) (hm : Six.At m w) :
    Calls Tryz.prog 109 #[.agg h.cells] w fun e w' => e = .returned v ∧ Below w.heap.size w w' := by
  subst hv
  obtain ⟨k, s, n, p⟩ := h
  unfold whatH mayH
  by_cases h1 : k = 1
  · subst h1
    exact told_dom s n p h8 hs _ _ rfl rfl m w hm
  · by_cases h2 : k = 2
    · subst h2
      exact told_num s n p h8 hs _ _ rfl rfl m w hm
    · by_cases h3 : k = 3
      · subst h3
        exact told_six s n p h8 hs _ _ rfl rfl m w hm
      · have := told_no ⟨k, s, n, p⟩ (beq_false_of_ne h1) (beq_false_of_ne h2) (beq_false_of_ne h3) w
        simp only [if_neg h1, if_neg h2, if_neg h3]
        exact this

theorem what_cases (h : H) : (mayH h = false ∧ whatH h = .nilIface) ∨ (mayH h = true ∧ h = ⟨1, h.s, 0, zero8⟩ ∧ domB h.s.data.toList = true ∧ whatH h = .iface 111 (.string h.s)) ∨
    (mayH h = true ∧ h = ⟨2, ⟨#[]⟩, h.n, zero8⟩ ∧ Four.fitsB h.n = true ∧ whatH h = .iface 112 (.int .i64 h.n)) ∨ (mayH h = true ∧ h = ⟨3, ⟨#[]⟩, 0, h.p⟩ ∧ Six.mayP h.p = true ∧ whatH h = .iface 113 (.agg (arr h.p))) := by
  cases e : mayH h
  · exact .inl ⟨rfl, by unfold whatH; rw [e]; rfl⟩
  · have hw : whatH h = (if h.k = 1 then .iface 111 (.string h.s) else if h.k = 2 then .iface 112 (.int .i64 h.n) else .iface 113 (.agg (arr h.p))) := by unfold whatH; rw [if_pos e]
    unfold mayH at e
    by_cases h1 : h.k = 1
    · rw [if_pos h1, Bool.and_eq_true, same_iff] at e
      exact .inr (.inl ⟨rfl, e.1, e.2, by rw [hw, if_pos h1]⟩)
    · rw [if_neg h1] at e
      by_cases h2 : h.k = 2
      · rw [if_pos h2, Bool.and_eq_true, same_iff] at e
        exact .inr (.inr (.inl ⟨rfl, e.1, e.2, by rw [hw, if_neg h1, if_pos h2]⟩))
      · rw [if_neg h2] at e
        by_cases h3 : h.k = 3
        · rw [if_pos h3, Bool.and_eq_true, same_iff] at e
          exact .inr (.inr (.inr ⟨rfl, e.1, e.2, by rw [hw, if_neg h1, if_neg h2]⟩))
        · rw [if_neg h3] at e; cases e

set_option maxRecDepth 100000 in
set_option maxHeartbeats 2000000 in
/-- May, what the host is told. -/
theorem may_in (h : H) (h8 : h.p.length = 8) (hs : h.s.size ≤ 1000) (v : Value) (hv : whatH h = v) (b : Bool) (hb : (v = .nilIface ∧ b = false) ∨ (∃ t x, v = .iface t x ∧ b = true)) (m : Int) (w : World) (hm : Six.At m w) :
    Calls Tryz.prog 83 #[.agg h.cells] w fun e w' => e = .returned (.bool b) ∧ Below w.heap.size w w' := by
  have HB0 := Lib.hid (show Below w.heap.size w (w.alloc (.cells h.cells 24)) from (Below.refl _ w).alloc (Nat.le_refl _) _)
  have HR0 := Lib.hid (HostAt.new w h)
  have HM := Lib.hid (hm.later HB0.out)
  have cT := Lib.hid (fun u (hu : Six.At m u) => told_any h h8 hs v hv m u hu)
  have H8 := Lib.hid h8
  have HH := Lib.hid hb
  clear hm h8 hs hv hb
  go_enter Tryz.func83, Tryz.ntmps83
  go_wp2_with ((with_reducible refine wp_load24 (o := ⟨some 3, .load 24 (.tmp 1), _, _, _, _⟩) ?_ (.tmp 1) ?_ w.heap.size ?_ h H8.out HR0.out ?_); (· rfl); (· rfl); (· rfl))
  refine (cT.out _ HM.out).mono ?_
  rintro e u1 ⟨rfl, hB1⟩
  have HB1 := Lib.hid (Ascii.below2 HB0.out hB1)
  clear hB1 cT HB0 HR0 HM
  rcases HH.out with ⟨rfl, rfl⟩ | ⟨t, x, rfl, rfl⟩
  · go_wp2
    go_ret
    exact ⟨rfl, HB1.out⟩
  · go_wp2
    go_ret
    exact ⟨rfl, HB1.out⟩

theorem may_any (h : H) (h8 : h.p.length = 8) (hs : h.s.size ≤ 1000) (b : Bool) (hb : mayH h = b) (m : Int) (w : World) (hm : Six.At m w) :
    Calls Tryz.prog 83 #[.agg h.cells] w fun e w' => e = .returned (.bool b) ∧ Below w.heap.size w w' := by
  subst hb
  refine may_in h h8 hs _ rfl _ ?_ m w hm
  rcases what_cases h with ⟨h1, h2⟩ | ⟨h1, _, _, h2⟩ | ⟨h1, _, _, h2⟩ | ⟨h1, _, _, h2⟩
  · exact .inl ⟨h2, h1⟩
  · exact .inr ⟨_, _, h2, h1⟩
  · exact .inr ⟨_, _, h2, h1⟩
  · exact .inr ⟨_, _, h2, h1⟩



/-- A host's text. -/
def showH (h : H) : List UInt8 := if mayH h then (if h.k = 1 then h.s.data.toList else if h.k = 2 then Four.showF h.n else 91 :: (Six.showS h.p ++ [93])) else []

set_option maxRecDepth 100000 in
set_option maxHeartbeats 4000000 in
theorem show_in' (h : H) (h8 : h.p.length = 8) (hs : h.s.size ≤ 1000) (x : ByteArray) (hx : (⟨(showH h).toArray⟩ : ByteArray) = x) (m : Int) (w : World) (hm : Six.At m w) (hk : h.k = 3 → Six.Known) :
    Calls Tryz.prog 90 #[.agg h.cells] w fun e w' => e = .returned (.string x) ∧ Below w.heap.size w w' := by
  have HB0 := Lib.hid (show Below w.heap.size w (w.alloc (.cells h.cells 24)) from (Below.refl _ w).alloc (Nat.le_refl _) _)
  have HR0 := Lib.hid (HostAt.new w h)
  have HM := Lib.hid (hm.later HB0.out)
  obtain ⟨v, hv⟩ : ∃ v, whatH h = v := ⟨_, rfl⟩
  have cT := Lib.hid (fun u (hu : Six.At m u) => told_any h h8 hs v hv m u hu)
  have H8 := Lib.hid h8
  have HH := Lib.hid (what_cases h)
  have HX := Lib.hid hx
  have HV := Lib.hid hv
  have HS := Lib.hid hs
  have HK := Lib.hid hk
  clear hm h8 hs hv hx hk
  go_enter Tryz.func90, Tryz.ntmps90
  go_wp2_with ((with_reducible refine wp_load24 (o := ⟨some 6, .load 24 (.tmp 1), _, _, _, _⟩) ?_ (.tmp 1) ?_ w.heap.size ?_ h H8.out HR0.out ?_); (· rfl); (· rfl); (· rfl))
  refine (cT.out _ HM.out).mono ?_
  rintro e u1 ⟨rfl, hB1⟩
  have HB1 := Lib.hid (Ascii.below2 HB0.out hB1)
  have HM1 := Lib.hid (HM.out.later hB1)
  clear hB1 cT HB0 HR0 HM
  rcases HH.out with ⟨h1, h2⟩ | ⟨h1, h0, h3, h2⟩ | ⟨h1, h0, h3, h2⟩ | ⟨h1, h0, h3, h2⟩
  · rw [HV.out] at h2
    subst h2
    have hx := HX.out
    unfold showH at hx
    rw [h1] at hx
    have HX2 := Lib.hid hx
    have n1 := nil42
    have n2 := nil44
    have n3 := nil46
    clear h1 hx HX HH HV
    go_wp2
    go_ret
    exact ⟨by rw [← HX2.out]; rfl, HB1.out⟩
  · rw [HV.out] at h2
    subst h2
    have hx := HX.out
    unfold showH at hx
    rw [if_pos h1, if_pos (show h.k = 1 by rw [h0])] at hx
    have HX2 := Lib.hid (show h.s = x by rw [← hx])
    obtain ⟨s, hse⟩ : ∃ s, h.s = s := ⟨_, rfl⟩
    rw [hse] at HX2 ⊢
    have HS2 := Lib.hid (show s.size ≤ 1000 by rw [← hse]; exact HS.out)
    have n1 := is42 (.string s)
    clear h1 h0 h3 hx HX HH HV hse HS
    go_wp2_with fail
    refine (clone_any s (by have := HS2.out; omega) _).mono ?_
    rintro e u2 ⟨rfl, hB2⟩
    go_wp2
    go_ret
    exact ⟨by rw [HX2.out]; rfl, Ascii.below2 HB1.out hB2⟩
  · rw [HV.out] at h2
    subst h2
    have hx := HX.out
    unfold showH at hx
    rw [if_pos h1, if_neg (show ¬ h.k = 1 by rw [h0]; show ¬ (2 : Int) = 1; decide), if_pos (show h.k = 2 by rw [h0])] at hx
    obtain ⟨n, hne⟩ : ∃ n, h.n = n := ⟨_, rfl⟩
    rw [hne] at hx ⊢
    have cF := Lib.hid (fun u => Four.showF_at n x hx u)
    have n1 := is44 (.int .i64 n)
    have n2 := no42_44 (.int .i64 n)
    clear h1 h0 h3 hx HX HH HV hne HS
    go_wp2_with fail
    refine (cF.out _).mono ?_
    rintro e u2 ⟨rfl, hB2⟩
    go_wp2
    go_ret
    exact ⟨rfl, Ascii.below2 HB1.out hB2⟩
  · rw [HV.out] at h2
    subst h2
    have hx := HX.out
    unfold showH at hx
    rw [if_pos h1, if_neg (show ¬ h.k = 1 by rw [h0]; show ¬ (3 : Int) = 1; decide), if_neg (show ¬ h.k = 2 by rw [h0]; show ¬ (3 : Int) = 2; decide)] at hx
    obtain ⟨p, hpe⟩ : ∃ p, h.p = p := ⟨_, rfl⟩
    have h8 := H8.out
    rw [hpe] at hx h3 h8 ⊢
    match p, h8 with
    | [a0, a1, a2, a3, a4, a5, a6, a7], _ =>
    obtain ⟨y, hy⟩ : ∃ y : ByteArray, (⟨(Six.showS [a0, a1, a2, a3, a4, a5, a6, a7]).toArray⟩ : ByteArray) = y := ⟨_, rfl⟩
    have cS := Lib.hid (fun u (hu : Six.At m u) => Six.show_any' [a0, a1, a2, a3, a4, a5, a6, a7] rfl y hy m u hu (HK.out (by rw [h0])))
    have hys : y.size ≤ 200 := by
      have := Six.show_len39 [a0, a1, a2, a3, a4, a5, a6, a7] rfl h3
      have e : y.size = (Six.showS [a0, a1, a2, a3, a4, a5, a6, a7]).length := by rw [← hy]; rfl
      omega
    have HX2 := Lib.hid (show (⟨#[91]⟩ : ByteArray) ++ y ++ ⟨#[93]⟩ = x by
      rw [← hx, ← hy]
      apply ByteArray.ext
      simp)
    have hv : Value.iface 113 (.agg (arr [a0, a1, a2, a3, a4, a5, a6, a7])) = .iface 113 (.agg #[.int .i64 a0, .int .i64 a1, .int .i64 a2, .int .i64 a3, .int .i64 a4, .int .i64 a5, .int .i64 a6, .int .i64 a7]) := rfl
    rw [hv]
    have n1 := is46 (.agg #[.int .i64 a0, .int .i64 a1, .int .i64 a2, .int .i64 a3, .int .i64 a4, .int .i64 a5, .int .i64 a6, .int .i64 a7])
    have n2 := no42_46 (.agg #[.int .i64 a0, .int .i64 a1, .int .i64 a2, .int .i64 a3, .int .i64 a4, .int .i64 a5, .int .i64 a6, .int .i64 a7])
    have n3 := no44_46 (.agg #[.int .i64 a0, .int .i64 a1, .int .i64 a2, .int .i64 a3, .int .i64 a4, .int .i64 a5, .int .i64 a6, .int .i64 a7])
    have HBx := Lib.hid (show Below u1.heap.size u1 (u1.alloc (.cells #[.int .i64 a0, .int .i64 a1, .int .i64 a2, .int .i64 a3, .int .i64 a4, .int .i64 a5, .int .i64 a6, .int .i64 a7] 113)) from (Below.refl _ u1).alloc (Nat.le_refl _) _)
    clear h1 h0 h3 hx HX HH HV hpe HS hy hv H8
    go_wp2_with fail
    refine (cS.out _ (HM1.out.later HBx.out)).mono ?_
    rintro e u2 ⟨rfl, hB2⟩
    go_wp2
    go_ret
    exact ⟨by rw [← HX2.out]; rfl, Ascii.below3 HB1.out HBx.out hB2⟩
/-! ### Local -/

theorem show_in (h : H) (h8 : h.p.length = 8) (hs : h.s.size ≤ 1000) (x : ByteArray) (hx : (⟨(showH h).toArray⟩ : ByteArray) = x) (m : Int) (w : World) (hm : Six.At m w) :
    Calls Tryz.prog 90 #[.agg h.cells] w fun e w' => e = .returned (.string x) ∧ Below w.heap.size w w' := show_in' h h8 hs x hx m w hm (fun _ => Six.known) 

def loc9 : List UInt8 := [108, 111, 99, 97, 108, 104, 111, 115, 116]

def one8 : List Int := [0, 0, 0, 0, 0, 0, 0, 1]

def localH (h : H) : Bool := if mayH h then (if h.k = 1 then (h.s.data.toList == loc9) || Lib.hasSuffix h.s.data.toList (46 :: loc9) else if h.k = 2 then Four.innerB h.n else decide (h.p = one8)) else false

set_option maxRecDepth 100000 in
theorem eq46 (p q : List Int) (hp : p.length = 8) (hq : q.length = 8) (b : Bool) (hb : decide (p = q) = b) (w : World) : (Op.equalIn 10000 113 (.agg (arr p)) (.agg (arr q))).run Tryz.prog w = .ok b w := by
  obtain ⟨i, hi⟩ : ∃ i, Tryz.prog.info? 3 = some i := by
    cases e : Tryz.prog.info? 3 with
    | some i => exact ⟨i, rfl⟩
    | none =>
      have : (Tryz.prog.info? 3).isSome = true := by kernel_rfl
      rw [e] at this
      cases this
  rw [show (10000 : Nat) = 9999 + 1 from rfl, run_equalIn_array w 9999 (arr p) (arr q) Tryz.underlying113 hi, show Tryz.prog.cellsOf 3 = 1 by kernel_rfl, Six.items3 9998 p q (by omega) _ (by intro j hj; simp at hj; omega), ← hb]
  congr 1
  match p, hp, q, hq with
  | [a0, a1, a2, a3, a4, a5, a6, a7], _, [b0, b1, b2, b3, b4, b5, b6, b7], _ => simp [List.range, List.range.loop]; rfl



theorem same_refl (h : H) : sameH h h = true := (same_iff h h).2 rfl

theorem brk_first (l : List UInt8) (h : brkB l = true) : ∃ r, l = 91 :: r := by
  obtain ⟨x, rfl⟩ := (brk_iff l).1 h
  exact ⟨_, rfl⟩

theorem brk_not (l : List UInt8) (h : (91 : UInt8) ∉ l) : brkB l = false := by
  cases e : brkB l
  · rfl
  · obtain ⟨r, rfl⟩ := brk_first l e
    exact absurd (by simp) h

theorem dom_no (l : List UInt8) (h : domB l = true) : (91 : UInt8) ∉ l := by
  intro hm
  have := (byte_not 91 (parts_all l ((dom_iff l).1 h).2.2.2 91 hm)).2.2.2.2.2.2.2.2.1
  exact this rfl

theorem digs_all : ∀ n : Fin 256, Deci.digB (UInt8.ofNat n.val) = true → 48 ≤ n.val ∧ n.val ≤ 57 := by decide +kernel

theorem digs_at (c : UInt8) (h : Deci.digB c = true) : 48 ≤ c.toNat ∧ c.toNat ≤ 57 := by
  have := digs_all ⟨c.toNat, c.toNat_lt⟩
  simp only [UInt8.ofNat_toNat] at this
  exact this h

/-- The bytes of a number's text. -/
theorem show4_bytes (n : Nat) (c : UInt8) (hc : c ∈ Four.show4 n) : (48 ≤ c.toNat ∧ c.toNat ≤ 57) ∨ c = 46 := by
  unfold Four.show4 Four.join4 at hc
  have hd : ∀ k, c ∈ Deci.showN k → (48 ≤ c.toNat ∧ c.toNat ≤ 57) ∨ c = 46 := fun k h => .inl (digs_at c (List.all_eq_true.1 (Deci.showN_all k) c h))
  simp only [List.mem_append, List.mem_cons] at hc
  rcases hc with h | h | h | h | h | h | h
  · exact hd _ h
  · exact .inr h
  · exact hd _ h
  · exact .inr h
  · exact hd _ h
  · exact .inr h
  · exact hd _ h

theorem show4_no (n : Nat) : (91 : UInt8) ∉ Four.show4 n := by
  intro h
  rcases show4_bytes n 91 h with ⟨_, h⟩ | h
  · exact absurd h (by decide)
  · exact absurd h (by decide)

theorem ba_of (s : ByteArray) (l : List UInt8) (h : s.data.toList = l) : (⟨l.toArray⟩ : ByteArray) = s := by
  apply ByteArray.ext
  rw [← h]

theorem ok_nil : okH [] = false := by decide +kernel

theorem par_no (l : List UInt8) (h : okH l = false) : parH l = none0 := by unfold parH; rw [h]; rfl

/-- The ways a host may be. -/
theorem may_ways (h : H) (hm : mayH h = true) : (h = ⟨1, h.s, 0, zero8⟩ ∧ domB h.s.data.toList = true ∧ showH h = h.s.data.toList) ∨ (∃ n : Nat, n ≤ 4294967295 ∧ h = ⟨2, ⟨#[]⟩, n, zero8⟩ ∧ showH h = Four.show4 n) ∨
    (h = ⟨3, ⟨#[]⟩, 0, h.p⟩ ∧ Six.mayP h.p = true ∧ showH h = 91 :: (Six.showS h.p ++ [93])) := by
  have hs : showH h = (if h.k = 1 then h.s.data.toList else if h.k = 2 then Four.showF h.n else 91 :: (Six.showS h.p ++ [93])) := by unfold showH; rw [if_pos hm]
  rcases what_cases h with ⟨h1, _⟩ | ⟨_, h0, h3, _⟩ | ⟨_, h0, h3, _⟩ | ⟨_, h0, h3, _⟩
  · rw [hm] at h1; cases h1
  · exact .inl ⟨h0, h3, by rw [hs, if_pos (show h.k = 1 by rw [h0])]⟩
  · obtain ⟨f1, f2⟩ := Four.fitsB_true h3
    obtain ⟨n, hn⟩ : ∃ n : Nat, h.n = (n : Int) := ⟨h.n.toNat, by omega⟩
    refine .inr (.inl ⟨n, by omega, by rw [← hn]; exact h0, ?_⟩)
    rw [hs, if_neg (show ¬ h.k = 1 by rw [h0]; show ¬ (2 : Int) = 1; decide), if_pos (show h.k = 2 by rw [h0])]
    unfold Four.showF
    rw [if_pos h3, hn]
    rfl
  · exact .inr (.inr ⟨h0, h3, by rw [hs, if_neg (show ¬ h.k = 1 by rw [h0]; show ¬ (3 : Int) = 1; decide), if_neg (show ¬ h.k = 2 by rw [h0]; show ¬ (3 : Int) = 2; decide)]⟩)

theorem ok_dom (l : List UInt8) (h : domB l = true) : okH l = true ∧ parH l = ⟨1, ⟨l.toArray⟩, 0, zero8⟩ := by
  obtain ⟨d1, d2, d3, d4⟩ := (dom_iff l).1 h
  have hb := brk_not l (dom_no l h)
  have ho : okH l = true := by unfold okH; rw [hb, d3, ← d2, h]; rfl
  exact ⟨ho, by unfold parH; rw [ho, hb, d3, ← d2]; rfl⟩

theorem ok_num (n : Nat) (h : n ≤ 4294967295) : okH (Four.show4 n) = true ∧ parH (Four.show4 n) = ⟨2, ⟨#[]⟩, n, zero8⟩ := by
  have hb := brk_not _ (show4_no n)
  have ho : okH (Four.show4 n) = true := by unfold okH; rw [hb, Four.look_show, Four.parB_show n h]; rfl
  exact ⟨ho, by unfold parH; rw [ho, hb, Four.look_show, Four.parI_show n h]; rfl⟩

theorem ok_six (x : List UInt8) : okH (91 :: (x ++ [93])) = Six.parB x ∧ parH (91 :: (x ++ [93])) = if Six.parB x then ⟨3, ⟨#[]⟩, 0, Six.parI x⟩ else none0 := by
  have hb := (brk_iff (91 :: (x ++ [93]))).2 ⟨x, rfl⟩
  have ho : okH (91 :: (x ++ [93])) = Six.parB x := by unfold okH; rw [if_pos hb, inner_of]
  refine ⟨ho, ?_⟩
  unfold parH
  rw [ho, if_pos hb, inner_of]

/-- What is shown is parsed. -/
theorem show_back (h : H) (h8 : h.p.length = 8) (hm : mayH h = true) : okH (showH h) = true ∧ parH (showH h) = h ∧ showH h ≠ [] ∧ (showH h).length ≤ 100 := by
  rcases may_ways h hm with ⟨h0, h3, e⟩ | ⟨n, hn, h0, e⟩ | ⟨h0, h3, e⟩
  · rw [e]
    obtain ⟨a, b⟩ := ok_dom _ h3
    exact ⟨a, by rw [b, ba_of h.s _ rfl]; exact h0.symm, dom_ne _ h3, ((dom_iff _).1 h3).1⟩
  · rw [e]
    obtain ⟨a, b⟩ := ok_num n hn
    have hl := Four.show4_len n hn
    exact ⟨a, by rw [b]; exact h0.symm, fun e => by rw [e] at hl; simp at hl, by omega⟩
  · rw [e]
    obtain ⟨a, b⟩ := ok_six (Six.showS h.p)
    obtain ⟨c, d⟩ := Six.par_show h.p h8 h3
    have hl := Six.show_len39 h.p h8 h3
    exact ⟨by rw [a, c], by rw [b, c, d]; exact h0.symm, by simp, by simp; omega⟩

theorem show_none (h : H) (hm : mayH h = false) : showH h = [] := by unfold showH; rw [hm]; rfl

theorem may1 (s : ByteArray) : mayH ⟨1, s, 0, zero8⟩ = domB s.data.toList := by
  show (sameH ⟨1, s, 0, zero8⟩ ⟨1, s, 0, zero8⟩ && domB s.data.toList) = _
  rw [same_refl]; rfl

theorem may2 (n : Int) : mayH ⟨2, ⟨#[]⟩, n, zero8⟩ = Four.fitsB n := by
  show (sameH ⟨2, ⟨#[]⟩, n, zero8⟩ ⟨2, ⟨#[]⟩, n, zero8⟩ && Four.fitsB n) = _
  rw [same_refl]; rfl

theorem may3 (p : List Int) : mayH ⟨3, ⟨#[]⟩, 0, p⟩ = Six.mayP p := by
  show (sameH ⟨3, ⟨#[]⟩, 0, p⟩ ⟨3, ⟨#[]⟩, 0, p⟩ && Six.mayP p) = _
  rw [same_refl]; rfl

/-- The ways a text is parsed. -/
theorem par_ways (l : List UInt8) (h : okH l = true) : (brkB l = true ∧ Six.parB (inner l) = true ∧ parH l = ⟨3, ⟨#[]⟩, 0, Six.parI (inner l)⟩) ∨ (brkB l = false ∧ Four.lookB l = true ∧ Four.parB l = true ∧ parH l = ⟨2, ⟨#[]⟩, Four.parI l, zero8⟩) ∨
    (brkB l = false ∧ Four.lookB l = false ∧ domB (Ascii.lower l) = true ∧ parH l = ⟨1, ⟨(Ascii.lower l).toArray⟩, 0, zero8⟩) := by
  have e : parH l = (if brkB l then ⟨3, ⟨#[]⟩, 0, Six.parI (inner l)⟩ else if Four.lookB l then ⟨2, ⟨#[]⟩, Four.parI l, zero8⟩ else ⟨1, ⟨(Ascii.lower l).toArray⟩, 0, zero8⟩) := by unfold parH; rw [if_pos h]
  unfold okH at h
  cases h1 : brkB l
  · rw [h1] at h e
    cases h2 : Four.lookB l
    · rw [h2] at h e
      exact .inr (.inr ⟨rfl, rfl, h, e⟩)
    · rw [h2] at h e
      exact .inr (.inl ⟨rfl, rfl, h, e⟩)
  · rw [h1] at h e
    exact .inl ⟨rfl, h, e⟩

/-- What is parsed may be. -/
theorem par_may (l : List UInt8) (h : okH l = true) : mayH (parH l) = true := by
  rcases par_ways l h with ⟨_, h2, e⟩ | ⟨_, _, h2, e⟩ | ⟨_, _, h2, e⟩
  · rw [e, may3]; exact (Six.par_may _ h2).2.1
  · obtain ⟨n, hn, _, hI⟩ := Four.parB_some l h2
    rw [e, hI, may2]
    unfold Four.fitsB
    rw [decide_eq_true (show (0 : Int) ≤ n by omega), decide_eq_true (show (n : Int) ≤ 4294967295 by omega)]
    rfl
  · rw [e, may1]; exact h2

theorem par_size (l : List UInt8) (n : Nat) (hl : l.length ≤ n) : (parH l).s.size ≤ n := by
  unfold parH
  split
  · split
    · exact Nat.zero_le _
    · split
      · exact Nat.zero_le _
      · show (Ascii.lower l).length ≤ n
        unfold Ascii.lower
        rw [List.length_map]; exact hl
  · exact Nat.zero_le _
/-! ### The chapter's examples -/

def exA : List UInt8 := [69, 88, 65, 77, 80, 76, 69, 46, 111, 114, 103]

def exa : List UInt8 := [101, 120, 97, 109, 112, 108, 101, 46, 111, 114, 103]

def exB : List UInt8 := [91, 48, 58, 48, 58, 58, 49, 93]

def exC : List UInt8 := [49, 46, 50, 46, 51]

def hA : H := ⟨1, ⟨#[101, 120, 97, 109, 112, 108, 101, 46, 111, 114, 103]⟩, 0, zero8⟩

def hBx : H := ⟨3, ⟨#[]⟩, 0, one8⟩

theorem exA_ok : okH exA = true ∧ parH exA = hA := by
  have h1 : okH exA = true := by decide +kernel
  refine ⟨h1, ?_⟩
  rcases par_ways exA h1 with ⟨h, _⟩ | ⟨_, h, _⟩ | ⟨_, _, _, e⟩
  · exact absurd h (by decide +kernel)
  · exact absurd h (by decide +kernel)
  · rw [e]; rfl

theorem exB_ok : okH exB = true ∧ parH exB = hBx := by
  have h1 : Six.parB [48, 58, 48, 58, 58, 49] = true := by decide +kernel
  have h2 : Six.parI [48, 58, 48, 58, 58, 49] = one8 := by decide +kernel
  obtain ⟨a, b⟩ := ok_six [48, 58, 48, 58, 58, 49]
  refine ⟨?_, ?_⟩
  · show okH (91 :: ([48, 58, 48, 58, 58, 49] ++ [93])) = true
    rw [a, h1]
  · show parH (91 :: ([48, 58, 48, 58, 58, 49] ++ [93])) = hBx
    rw [b, h1, h2]; rfl

theorem exC_no : okH exC = false := by decide +kernel

theorem hA_may : mayH hA = true := by
  have := par_may exA exA_ok.1
  rw [exA_ok.2] at this
  exact this

theorem hB_may : mayH hBx = true := by
  have := par_may exB exB_ok.1
  rw [exB_ok.2] at this
  exact this

theorem one_show : Six.showS one8 = [58, 58, 49] := by
  have h1 : Six.mayP one8 = true := by decide +kernel
  have h2 : Six.runP one8 = (0, 7) := by decide +kernel
  have h3 : Six.texts one8 = [[48], [48], [48], [48], [48], [48], [48], [49]] := by
    show [Six.hexN 0, Six.hexN 0, Six.hexN 0, Six.hexN 0, Six.hexN 0, Six.hexN 0, Six.hexN 0, Six.hexN 1] = _
    rw [Six.hexN_digit 0 (by omega), Six.hexN_digit 1 (by omega)]
    rfl
  unfold Six.showS Six.showIn
  rw [h1, h2, h3]
  rfl

theorem hB_show : showH hBx = [91, 58, 58, 49, 93] := by
  unfold showH
  rw [if_pos hB_may]
  show 91 :: (Six.showS one8 ++ [93]) = _
  rw [one_show]; rfl

theorem hB_local : localH hBx = true := by
  unfold localH
  rw [if_pos hB_may]
  rfl

theorem hA_local : localH hA = false := by
  unfold localH
  rw [if_pos hA_may]
  show ((exa == loc9) || Lib.hasSuffix exa (46 :: loc9)) = false
  decide +kernel



structure TwoH (m : Int) (g1 g2 : Nat) (a b : H) (W : World) : Prop where
  r1 : HostAt W g1 a
  r2 : HostAt W g2 b
  at_ : Six.At m W

theorem TwoH.later {m : Int} {g1 g2 : Nat} {a b : H} {W U : World} (h : TwoH m g1 g2 a b W) (hB : Below W.heap.size W U) : TwoH m g1 g2 a b U := ⟨h.r1.later hB, h.r2.later hB, h.at_.later hB⟩

/-- A new host, written. -/
theorem below_new (u : World) (h : H) : Below u.heap.size u ((u.alloc (.cells none0.cells 24)).setRow u.heap.size h.cells) := Six.below_setRow ((Below.refl _ u).alloc (Nat.le_refl _) _) (Nat.le_refl _) _

theorem host_new (u : World) (h : H) : HostAt ((u.alloc (.cells none0.cells 24)).setRow u.heap.size h.cells) u.heap.size h := (HostAt.new u none0).row h

theorem zero_host : (#[.int .i64 0, .string ⟨#[]⟩, .int .i64 0, .int .i64 0, .int .i64 0, .int .i64 0, .int .i64 0, .int .i64 0, .int .i64 0, .int .i64 0, .int .i64 0] : Array Value) = none0.cells := rfl

end Go.Proofs.YtlkikfdbjpjpaaaGreatDoor.Host
