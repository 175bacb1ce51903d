/-
  show's Show.
  The chapter's example.
  How long the texts of addresses are; what is shown is parsed.
-/
import Derived.Test.YtlkikfdbjpjpaaaGreatDoorShowA
namespace Go.Proofs.YtlkikfdbjpjpaaaGreatDoor.Show
set_option linter.unusedSimpArgs false
set_option linter.unusedVariables false
set_option maxRecDepth 100000


open Go.RowKit Go.Shelf

open Url

open Host (none0 showH)

open Path (Strs)

set_option maxRecDepth 100000

theorem len_of {L p R X : T} {B : Nat} (h : L ++ (p ++ R) = X) (hX : X.length ≤ B) : L.length + p.length ≤ B := by
  rw [← h] at hX
  simp only [List.length_append] at hX
  omega

theorem len_one {L p R X : T} {B : Nat} (h : L ++ (p ++ R) = X) (hX : X.length ≤ B) (q : T) (hq : q.length ≤ 1000010) (hB : B + 1000010 ≤ 140737488355328) : L.length + q.length ≤ 140737488355328 := by
  have := len_of h hX
  omega

theorem shift {L p R X : T} (h : L ++ (p ++ R) = X) : (L ++ p) ++ R = X := by rw [List.append_assoc]; exact h

/-- What is told, part by part. -/
theorem text_parts {u : U} (h : mayU u = true) (c : Bool) (hc : (!decide (webI u.sch = 0)) = c) (us : Bool) (hus : (!u.usr.isEmpty || !u.pas.isEmpty) = us) :
    ([] : T) ++ (u.sch ++ ([58] ++ (u.opq ++ ((if c = true then [[47], [47]].flatten else []) ++ ((if us = true then [u.usr].flatten else []) ++ ((if (!u.pas.isEmpty) = true then [[58], u.pas].flatten else []) ++ ((if us = true then [[64]].flatten else []) ++ (doorU u ++ (Path.show1 u.path ++
      ((if u.hq = true then [[63], u.qry].flatten else []) ++ ((if u.hf = true then [[35], u.frg].flatten else []) ++ []))))))))))) = textU u := by
  have hq : (if u.hq = true then [[63], u.qry].flatten else []) = qT u := by unfold qT; cases u.hq <;> simp
  have hf : (if u.hf = true then [[35], u.frg].flatten else []) = fT u := by unfold fT; cases u.hf <;> simp
  rw [hq, hf]
  unfold textU midT
  rcases (may_parts h).2 with ⟨hw, k⟩ | ⟨hw, k⟩
  · have e : c = true := by rw [← hc, decide_eq_false hw]; rfl
    have ed : doorU u = doorT u := by unfold doorU; rw [h, decide_eq_false hw]; rfl
    rw [if_neg hw, e, k.opq, ed]
    unfold restT userT
    rw [← hus]
    cases h1 : u.usr with
    | nil => cases h2 : u.pas with
      | nil => simp
      | cons y s => simp
    | cons y s => cases h2 : u.pas with
      | nil => simp
      | cons z t => simp
  · have e : c = false := by rw [← hc, hw]; rfl
    have ed : doorU u = [] := by unfold doorU; rw [h, hw]; rfl
    rw [if_pos hw, e, ed, k.path, ← hus, k.usr, k.pas]
    simp [Path.show1]

theorem text_len (u : U) (hf : Fit u) (h : mayU u = true) : (textU u).length ≤ 100000000000 := by
  have h1 := hf.sch
  have h2 := hf.usr
  have h3 := hf.pas
  have h4 := hf.opq
  have h5 := hf.qry
  have h6 := hf.frg
  have h7 := host_len u hf
  have h8 := Path.show_len u.path hf.pt
  have h9 := hf.pn
  have hp : (portT u).length ≤ 21 := by
    unfold portT
    split
    · exact Nat.zero_le _
    · rename_i hne
      have : -1 ≤ u.port ∧ u.port ≤ 65535 := by
        rcases (may_parts h).2 with ⟨_, k⟩ | ⟨_, k⟩
        · exact ⟨k.p1, k.p2⟩
        · exact absurd k.port hne
      have := port_len u (by omega) (by omega)
      rw [List.length_cons]; omega
  have hu : (userT u).length ≤ 2000010 := by
    unfold userT
    split
    · exact Nat.zero_le _
    · split <;> simp <;> omega
  have hm : (midT u).length ≤ 20000000000 := by
    unfold midT
    split
    · omega
    · unfold restT doorT
      simp only [List.length_cons, List.length_append]
      omega
  have hq : (qT u).length ≤ 1000001 := by unfold qT; split <;> simp; omega
  have hff : (fT u).length ≤ 1000001 := by unfold fT; split <;> simp; omega
  unfold textU
  simp only [List.length_cons, List.length_append]
  omega



set_option maxRecDepth 100000

def uS : U := ⟨http, [117], [], aH, 8080, [[97], []], [], [120], [], true, false⟩

def uZ : U := { none1 with hf := true }

def s1 : T := [104, 116, 116, 112, 58, 47, 47, 97, 46, 111, 114, 103, 58, 56, 48, 56, 48, 47, 97, 47, 63, 120]

def s2 : T := [104, 116, 116, 112, 58, 47, 47, 117, 64, 97, 46, 111, 114, 103, 58, 56, 48, 56, 48, 47, 97, 47, 63, 120]

def s3 : T := [97, 46, 111, 114, 103, 58, 56, 48, 56, 48]

theorem show8080 : Deci.showI 8080 = [56, 48, 56, 48] := by
  rw [Deci.showI_nonneg (by decide)]
  show Deci.showN 8080 = _
  simp [Deci.showN, Deci.digC]

theorem uS_may : mayU uS = true := by decide +kernel

theorem uS_door : doorU uS = s3 := by
  unfold doorU doorT portT
  rw [uS_may, show webI uS.sch = 80 from by decide, show uS.h = aH from rfl, aorg_show, show uS.port = 8080 from rfl, show8080]
  decide

theorem uS_show : showU uS = s2 := by
  unfold showU textU midT restT doorT portT
  rw [uS_may, show webI uS.sch = 80 from by decide, show uS.h = aH from rfl, aorg_show, show uS.port = 8080 from rfl, show8080]
  decide

theorem uS_open : showU (openU uS) = s1 := by
  unfold showU textU midT restT doorT portT
  rw [open_may uS_may, show webI (openU uS).sch = 80 from by decide, show (openU uS).h = aH from rfl, aorg_show, show (openU uS).port = 8080 from rfl, show8080]
  decide

theorem uS_fit : Fit uS := ⟨rfl, by decide, by decide, by decide, by decide, by decide, by decide, by decide, by decide, by decide⟩

theorem uSo_fit : Fit (openU uS) := ⟨rfl, by decide, by decide, by decide, by decide, by decide, by decide, by decide, by decide, by decide⟩

theorem uZ_fit : Fit uZ := ⟨rfl, by decide, by decide, by decide, by decide, by decide, by decide, by decide, by decide, by decide⟩

theorem strs_two (w : World) (a b : ByteArray) : Strs (w.alloc (.cells #[.string a, .string b] 9)) (.slice (some ⟨w.heap.size, 0, none⟩) 2 2) [a.data.toList, b.data.toList] := by
  refine ⟨_, 2, rfl, by simp, by unfold maxLen; omega, (fun e => by cases e), fun _ => ⟨w.heap.size, 0, rfl, fun j hj => ?_⟩⟩
  have h : (w.alloc (.cells #[.string a, .string b] 9)).heap[w.heap.size]? = some (.cells #[.string a, .string b] 9 (0, 0)) := heap_alloc_new w _
  rw [cell_of_row _ _ _ _ _ _ h]
  match j, hj with
  | 0, _ => simp
  | 1, _ => simp

theorem zS (pv : Value) : cU (bareU uZ) pv = #[.string ⟨#[]⟩, .string ⟨#[]⟩, .string ⟨#[]⟩, .int .i64 0, .string ⟨#[]⟩, .int .i64 0, .int .i64 0, .int .i64 0, .int .i64 0, .int .i64 0, .int .i64 0, .int .i64 0, .int .i64 0, .int .i64 0, .int .i64 0, pv, .string ⟨#[]⟩, .string ⟨#[]⟩, .string ⟨#[]⟩, .bool false, .bool false] := rfl

theorem zL (pv : Value) : (#[.string ⟨#[]⟩, .string ⟨#[]⟩, .string ⟨#[]⟩, .int .i64 0, .string ⟨#[]⟩, .int .i64 0, .int .i64 0, .int .i64 0, .int .i64 0, .int .i64 0, .int .i64 0, .int .i64 0, .int .i64 0, .int .i64 0, .int .i64 0, pv, .string ⟨#[]⟩, .string ⟨#[]⟩, .string ⟨#[]⟩, .bool false, .bool true] : Array Value) = cU uZ pv := rfl



theorem show_le (K : Nat) (l : List T) (h : ∀ t ∈ l, t.length ≤ K) : (Path.show1 l).length ≤ l.length * (K + 1) := by
  induction l with
  | nil => exact Nat.zero_le _
  | cons a r ih =>
    have h1 := h a (List.mem_cons_self ..)
    have h2 := ih fun t ht => h t (List.mem_cons_of_mem _ ht)
    show (47 :: (a ++ Path.show1 r)).length ≤ (r.length + 1) * (K + 1)
    rw [List.length_cons, List.length_append, Nat.succ_mul]
    omega

theorem text_le (u : U) (hf : Fit u) (h : mayU u = true) (B P : Nat) (h1 : u.sch.length ≤ B) (h2 : u.usr.length ≤ B) (h3 : u.pas.length ≤ B) (h4 : u.opq.length ≤ B) (h5 : u.qry.length ≤ B) (h6 : u.frg.length ≤ B) (h8 : (Path.show1 u.path).length ≤ P) : (textU u).length ≤ P + 6 * B + 200 := by
  have h7 := host_len u hf
  have hp : (portT u).length ≤ 21 := by
    unfold portT
    split
    · exact Nat.zero_le _
    · rename_i hne
      have : -1 ≤ u.port ∧ u.port ≤ 65535 := by
        rcases (may_parts h).2 with ⟨_, k⟩ | ⟨_, k⟩
        · exact ⟨k.p1, k.p2⟩
        · exact absurd k.port hne
      have := port_len u (by omega) (by omega)
      rw [List.length_cons]; omega
  have hu : (userT u).length ≤ 2 * B + 2 := by
    unfold userT
    split
    · exact Nat.zero_le _
    · split <;> simp <;> omega
  have hm : (midT u).length ≤ P + 3 * B + 130 := by
    unfold midT
    split
    · omega
    · unfold restT doorT
      simp only [List.length_cons, List.length_append]
      omega
  have hq : (qT u).length ≤ B + 1 := by unfold qT; split <;> simp; omega
  have hff : (fT u).length ≤ B + 1 := by unfold fT; split <;> simp; omega
  unfold textU
  simp only [List.length_cons, List.length_append]
  omega

theorem show_le_of {u : U} {n : Nat} (h : mayU u = true → (textU u).length ≤ n) : (showU u).length ≤ n := by
  unfold showU
  split
  · exact h ‹_›
  · exact Nat.zero_le _

theorem few_show (u : U) (h8 : u.h.p.length = 8) (h : fewU u = true) : (showU u).length ≤ 25000 := by
  have hf := few_fit u h8 h
  unfold fewU at h
  simp only [Bool.and_eq_true, le3_iff] at h
  obtain ⟨h0, h1, h2, h3, h4, h5, h6, h7⟩ := h
  obtain ⟨p1, p2⟩ := (Path.few_iff _).1 h0
  refine show_le_of fun hm => ?_
  have hp := show_le 300 u.path p2
  have : u.path.length * (300 + 1) ≤ 60 * 301 := Nat.mul_le_mul_right _ p1
  have := text_le u hf hm 300 18060 h1 h2 h3 h5 h6 h7 (by omega)
  omega

theorem enc_le (set : Int) (l : T) (n : Nat) (h : l.length ≤ n) : (Pct.encode set l).length ≤ 3 * n := by have := Pct.encode_len set l; omega

/-- How long the parts of what is parsed are. -/
structure Small (u : U) : Prop where
  h8 : u.h.p.length = 8
  hs : u.h.s.size ≤ 400
  sp : (Path.show1 u.path).length ≤ 1300
  sch : u.sch.length ≤ 1200
  usr : u.usr.length ≤ 1200
  pas : u.pas.length ≤ 1200
  opq : u.opq.length ≤ 1200
  qry : u.qry.length ≤ 1200
  frg : u.frg.length ≤ 1200

theorem Small.fit {u : U} (s : Small u) : Fit u := by
  have hcn := Path.show_count u.path
  have hea := Path.show_each u.path
  have := s.sp
  exact ⟨s.h8, by have := s.hs; omega, by omega, fun x hx => by have := hea x hx; omega, by have := s.sch; omega, by have := s.usr; omega, by have := s.pas; omega, by have := s.opq; omega, by have := s.qry; omega, by have := s.frg; omega⟩

theorem Small.show {u : U} (s : Small u) : (showU u).length ≤ 25000 :=
  show_le_of fun hm => by have := text_le u s.fit hm 1200 1300 s.sch s.usr s.pas s.opq s.qry s.frg s.sp; omega

theorem par_small (l : T) (h : l.length ≤ 400) : Small (parU l) := by
  have hc : (Ascii.clean l).length ≤ 400 := Nat.le_trans (clean_len l) h
  unfold parU
  generalize Ascii.clean l = s at hc
  have hr : (schR s).length ≤ 400 := by unfold schR; split <;> first | exact Nat.le_trans (aft_len _ _) hc | exact Nat.zero_le _
  have hs : (schS s).length ≤ 400 := by
    unfold schS
    split
    · simp only [Ascii.lower, List.length_map]; exact Nat.le_trans (bef_len _ _) hc
    · exact Nat.zero_le _
  have hA : (tA (schR s)).length ≤ 400 := Nat.le_trans (Nat.le_trans (bef_len _ _) (bef_len _ _)) hr
  have hQ : (tQ (schR s)).length ≤ 400 := Nat.le_trans (Nat.le_trans (aft_len _ _) (bef_len _ _)) hr
  have hF : (tF (schR s)).length ≤ 400 := Nat.le_trans (aft_len _ _) hr
  cases ho : okS s
  · rw [par_none s ho]
    exact ⟨rfl, by decide, by decide, by decide, by decide, by decide, by decide, by decide, by decide⟩
  · unfold parS
    rw [if_pos ho]
    have e2 := enc_le 2 _ _ hQ
    have e1 := enc_le 1 _ _ hF
    unfold aheadU
    split
    · have e0 := enc_le 1 _ _ hA
      exact ⟨rfl, (by show 0 ≤ 400; omega), (by show 0 ≤ 1300; omega), (by show (schS s).length ≤ 1200; omega), (by show 0 ≤ 1200; omega), (by show 0 ≤ 1200; omega), (by show (Pct.encode 1 (tA (schR s))).length ≤ 1200; omega), (by show (Pct.encode 2 (tQ (schR s))).length ≤ 1200; omega), (by show (Pct.encode 1 (tF (schR s))).length ≤ 1200; omega)⟩
    · generalize tA (schR s) = t at hA
      have h2 : (t.drop 2).length ≤ 400 := by rw [List.length_drop]; omega
      have ha : (auth t).length ≤ 400 := Nat.le_trans (bef_len _ _) h2
      have hg : (segT t).length ≤ 400 := Nat.le_trans (aft_len _ _) h2
      have hp : (place (auth t)).length ≤ 400 := Nat.le_trans (laft_len _ _) ha
      have hn : (hname (place (auth t))).length ≤ 400 := by rw [hname_take]; exact Nat.le_trans (List.length_take_le' _ _) hp
      have hu : (user (auth t)).length ≤ 400 := Nat.le_trans (Nat.le_trans (bef_len _ _) (lbef_len _ _)) ha
      have hw : (pass (auth t)).length ≤ 400 := Nat.le_trans (Nat.le_trans (aft_len _ _) (lbef_len _ _)) ha
      have eu := enc_le 4 _ _ hu
      have ew := enc_le 4 _ _ hw
      have hh := Host.par_size (hname (place (auth t))) 400 hn
      have hsh := Path.parse_show_len (47 :: segT t)
      have hsl : (Path.show1 (Path.parse (47 :: segT t))).length ≤ 1300 := by simp only [List.length_cons] at hsh; omega
      exact ⟨Host.parH_len _, hh, hsl, (by show (schS s).length ≤ 1200; omega), (by show (Pct.encode 4 (user (auth t))).length ≤ 1200; omega), (by show (Pct.encode 4 (pass (auth t))).length ≤ 1200; omega), (by show 0 ≤ 1200; omega), (by show (Pct.encode 2 (tQ (schR s))).length ≤ 1200; omega), (by show (Pct.encode 1 (tF (schR s))).length ≤ 1200; omega)⟩

theorem bare_fit {u : U} (hf : Fit u) : Fit (bareU u) := ⟨hf.h8, hf.hs, hf.pn, hf.pt, hf.sch, hf.usr, hf.pas, hf.opq, hf.qry, Nat.zero_le _⟩

theorem open_fit {u : U} (hf : Fit u) : Fit (openU u) := ⟨hf.h8, hf.hs, hf.pn, hf.pt, hf.sch, Nat.zero_le _, Nat.zero_le _, hf.opq, hf.qry, Nat.zero_le _⟩

theorem show_size (u : U) (hf : Fit u) (x : ByteArray) (hx : tb (showU u) = x) : x.size ≤ 100000000000 := by
  rw [size_tb hx]
  exact show_le_of fun h => text_len u hf h

/-- What is shown is parsed, or was not shown. -/
theorem back (u : U) (h8 : u.h.p.length = 8) : okU (showU u) = mayU u ∧ (mayU u = true → parU (showU u) = u) := by
  cases h : mayU u
  · have : showU u = [] := by unfold showU; rw [h]; rfl
    rw [this]
    exact ⟨by decide +kernel, fun e => by cases e⟩
  · exact ⟨(par_show h h8).1, fun _ => (par_show h h8).2⟩

end Go.Proofs.YtlkikfdbjpjpaaaGreatDoor.Show
