/-
  WHAT IS PROVED: the card of JoinPath: of any address of the web whose parts are few and short, and any text of at most 300 bytes that is no whole address and has neither a query, nor a fragment, nor a host: one that begins by one slash tells the path anew; one that begins by none stands beside the last segment; host, port, and user stay.
  CONDITIONS: none but the card's own: the listed tables read as their texts lay them; the address and the text are any.
-/
import Derived.Test.YtkhjhiofgoampaaGreatDoorCards
import Derived.Test.YtkhjhiofgoampaaGreatDoorTie
import Derived.WalkKit
import Derived.ProofKit
import Derived.OpenShut
import Derived.ShutString
import Derived.ChangeOld
import Derived.Below
import Derived.Deep.RegionHeld
import Derived.Laws.AppendOwnNone
import Derived.Test.YtkhjhiofgoampaaGreatDoorJAwake
import Derived.Test.YtkhjhiofgoampaaGreatDoorLaid
import Derived.Test.YtkhjhiofgoampaaGreatDoorHOpen
namespace Go.Proofs.YtkhjhiofgoampaaGreatDoor.joinPath
open Go.ChangeShapes Go.WideShapes Go.ChangeAt Go.RowKit
open Go.ChangeMaps (open_string shut_string)
open Go.Shelf
open Go.Proofs.YtkhjhiofgoampaaGreatDoor.Url
open Go.Proofs.YtkhjhiofgoampaaGreatDoor.Host (H)
open Go.Proofs.YtkhjhiofgoampaaGreatDoor.Path (Strs)
set_option linter.unusedSimpArgs false
set_option linter.unusedVariables false

theorem own : ownKnob Tryz.prog.godebug = none := by kernel_rfl
theorem laidOut : laidOutB Tryz.prog = true := by kernel_rfl

open Go.Proofs.YtkhjhiofgoampaaGreatDoor.Show
open Go.Proofs.YtkhjhiofgoampaaGreatDoor.Join
theorem few_path {u : U} (h : fewU u = true) : u.path.length ≤ 60 ∧ ∀ t ∈ u.path, t.length ≤ 300 := by
  unfold fewU at h
  rw [Bool.and_eq_true] at h
  exact (Path.few_iff _).1 h.1
theorem few_sch {u : U} (h : fewU u = true) : u.sch.length ≤ 300 := by
  unfold fewU at h
  simp only [Bool.and_eq_true, le3_iff] at h
  exact h.2.1
theorem byte47' (x : UInt8) : ((x.toNat : Int) == 47) = (x == 47) := by
  rw [Bool.eq_iff_iff, beq_iff_eq, beq_iff_eq]
  exact ⟨fun h => UInt8.toNat_inj.1 (by simpa using (by omega : x.toNat = 47)), fun h => by rw [h]; rfl⟩
theorem pre_at' (c : ByteArray) (h0 : 0 < c.size) (h : 1 < c.size) : Lib.hasPrefix c.data.toList two = (((c[0].toNat : Int) == 47) && ((c[1].toNat : Int) == 47)) := by
  have e0 := Pct.drop_cons c 0 h0
  have e1 := Pct.drop_cons c 1 h
  rw [List.drop_zero] at e0
  rw [e0, e1, byte47', byte47', Bool.eq_iff_iff, pre_two, Bool.and_eq_true, beq_iff_eq, beq_iff_eq]
  constructor
  · rintro ⟨r, hr⟩
    injection hr with a b
    injection b with b c
    exact ⟨a, b⟩
  · rintro ⟨a, b⟩
    exact ⟨_, by rw [a, b]⟩
theorem pre_short' (c : ByteArray) (h : ¬ 1 < c.size) : Lib.hasPrefix c.data.toList two = false := by
  cases e : Lib.hasPrefix c.data.toList two
  · rfl
  · obtain ⟨r, hr⟩ := (pre_two _).1 e
    have := size_list c
    rw [hr] at this
    simp only [List.length_cons] at this
    omega
theorem merge_sizes (base : List T) (s : T) (h1 : base.length ≤ 60) (h2 : ∀ t ∈ base, t.length ≤ 300) (hs : s.length ≤ 300) : (Path.merge base s).length ≤ 1000 ∧ ∀ t ∈ Path.merge base s, t.length ≤ 1000 := by
  have e1 := Path.split_len (Path.enc (Path.strip s))
  have e2 := Path.split_sum (Path.enc (Path.strip s))
  have e3 : (Path.enc (Path.strip s)).length ≤ 3 * (Path.strip s).length := Pct.encode_len 3 _
  have e4 := Path.strip_len s
  have e5 : (Path.segs s).length ≤ 901 := by show (Path.split _).length ≤ _; omega
  have e6 : ∀ t ∈ Path.segs s, t.length ≤ 900 := fun t ht => by have := e2 t ht; omega
  refine ⟨?_, ?_⟩
  · have h := Path.norm_len [] (base.dropLast ++ Path.segs s)
    rw [List.length_append, List.length_dropLast] at h
    show (Path.norm [] (base.dropLast ++ Path.segs s)).length ≤ 1000
    simp only [List.length_nil] at h
    omega
  · refine Path.norm_mem [] (base.dropLast ++ Path.segs s) (fun t => t.length ≤ 1000) (by simp) (by simp) (fun t ht _ => ?_)
    rcases List.mem_append.1 ht with h | h
    · have := h2 t (List.dropLast_subset _ h); omega
    · have := e6 t h; omega
set_option maxRecDepth 100000
set_option maxHeartbeats 16000000 in
theorem walk (a0 : U) (v0 : Value) (l0 : a0.h.p.length = 8) (a1 : ByteArray) (w1 : a1.size ≤ maxLen) (m : Int) (w : World) (hm : Six.At m w) (s0 : Path.Strs w v0 a0.path) (w0 : (Lit.int .i64 a0.port).wf = true) :
    Calls Tryz.prog 6 #[.agg (cU a0 v0), .string a1] w fun e w' => e = .returned (.bool true) ∧ Below w.heap.size w w' := by
  have b1 : Below w.heap.size w (w.alloc (.cells (cU a0 v0) 27)) := (Below.refl w.heap.size w).alloc (Nat.le_refl _) _
  have HX := Lib.hid b1
  have HU0 := Lib.hid (UrlAt.new w a0 v0)
  have HM0 := Lib.hid (hm.later HX.out)
  have HS0 := Lib.hid (s0.later HX.out)
  clear hm b1 s0
  go_enter Tryz.func6, Tryz.ntmps6
  go_wp2_with fail
  generalize (w.alloc (.cells (cU a0 v0) 27)) = X0 at HX HM0 HU0 HS0 ⊢
  have HMX := HM0
  refine (Join.awake_calls m X0 HM0.out).mono ?_
  rintro e X1 ⟨rfl, hB⟩
  have HB1 := Lib.hid (hB)
  have HU1 := Lib.hid (HU0.out.later hB)
  have HM1 := Lib.hid (HM0.out.later hB)
  have HS1 := Lib.hid (HS0.out.later hB)
  clear HU0 HM0 HS0
  clear hB
  obtain ⟨f0, hf0⟩ : ∃ b, fewU a0 = b := ⟨_, rfl⟩
  have hu := HU1.out
  go_wp2_with ((with_reducible refine wp_load27 (o := ⟨some 13, .load 27 (.tmp 2), _, _, _, _⟩) ?_ (.tmp 2) ?_ w.heap.size ?_ a0 v0 l0 hu ?_); (· rfl); (· rfl); (· rfl); simp only [Act.put, List.setIfInBounds_toArray, List.set_cons_zero, List.set_cons_succ])
  refine (few_any a0 v0 l0 f0 hf0 _ HS1.out).mono ?_
  rintro e X2 ⟨rfl, hB⟩
  have HB2 := Lib.hid (below_trans HB1.out hB)
  have HU2 := Lib.hid (HU1.out.later hB)
  have HM2 := Lib.hid (HM1.out.later hB)
  have HS2 := Lib.hid (HS1.out.later hB)
  clear HB1 HU1 HM1 HS1
  clear hB hu
  cases f0
  · go_wp2
    go_ret
    exact ⟨rfl, HX.out.trans (HB2.out.mono HX.out.size)⟩
  obtain ⟨big, hbig⟩ : ∃ b, decide (300 < a1.size) = b := ⟨_, rfl⟩
  have hbig' : decide ((300 : Int) < (a1.size : Int)) = big := by rw [← hbig]; exact decide_eq_decide.2 (by omega)
  cases big
  · have hs : a1.size ≤ 300 := by have := of_decide_eq_false hbig; omega
    have HBg := Lib.hid hbig'
    have HBh := Lib.hid hbig
    have F0 := few_fit a0 l0 hf0
    have P0 := few_path hf0
    obtain ⟨b, hb⟩ : ∃ b, mayU a0 = b := ⟨_, rfl⟩
    obtain ⟨z, hz⟩ : ∃ z, webI a0.sch = z := ⟨_, rfl⟩
    obtain ⟨wh, hwh⟩ : ∃ b, wholeB a1.data.toList = b := ⟨_, rfl⟩
    obtain ⟨N, hN⟩ : ∃ n, tb a0.sch = n := ⟨_, rfl⟩
    have hsc : a0.sch.length ≤ 1000 := by have := few_sch hf0; omega
    have CA := Lib.hid (fun x hx hy => may_any a0 v0 F0 b hb m x hx hy)
    have CZ := Lib.hid (fun x => web_any N z (by rw [list_tb hN]; exact hz) x)
    have CH := Lib.hid (fun x hx => whole_any a1 (by omega) wh hwh m x hx)
    obtain ⟨sl, hsl⟩ : ∃ q, Lib.hasPrefix a1.data.toList [47] = q := ⟨_, rfl⟩
    obtain ⟨WP, hWP⟩ : ∃ q, (if sl = true then Path.parse a1.data.toList else Path.merge a0.path a1.data.toList) = q := ⟨_, rfl⟩
    obtain ⟨X, hX⟩ : ∃ x, ({ a0 with path := WP, qry := [], hq := false, frg := [], hf := false } : U) = x := ⟨_, rfl⟩
    obtain ⟨D, hD⟩ : ∃ q, (a1.data.toList.isEmpty || Lib.hasPrefix a1.data.toList two) = q := ⟨_, rfl⟩
    have HRES := Lib.hid (show b = true → z ≠ 0 → wh = false → D = false → (∀ c ∈ a1.data.toList, 32 < c.toNat ∧ c.toNat ≠ 63 ∧ c.toNat ≠ 35) → okR a0 a1.data.toList = true ∧ resR a0 a1.data.toList = X from fun h k e d hc => by
      have hd : (a1.data.toList.isEmpty || Lib.hasPrefix a1.data.toList two) = false := hD.trans d
      rw [Bool.or_eq_false_iff] at hd
      obtain ⟨h1, h2⟩ := res_path (hb.trans h) (fun q => k (hz.symm.trans q)) a1.data.toList hc (hwh.trans e) (fun q => by rw [q] at hd; exact absurd hd.1 (by simp)) hd.2
      rw [hsl, hWP, hX] at h2
      exact ⟨h1, h2⟩)
    have hwpS : WP.length ≤ 1000 ∧ ∀ t ∈ WP, t.length ≤ 1000 := by
      rw [← hWP]
      split
      · exact merge_sizes [] _ (by simp) (by simp) (by rw [size_list]; omega)
      · exact merge_sizes a0.path _ P0.1 P0.2 (by rw [size_list]; omega)
    have hXF : Fit X := by
      rw [← hX]
      exact ⟨F0.h8, F0.hs, by have := hwpS.1; show WP.length ≤ 10000; omega, fun t ht => by have := hwpS.2 t ht; omega, F0.sch, F0.usr, F0.pas, F0.opq, Nat.zero_le _, Nat.zero_le _⟩
    have hY : ({ X with path := a0.path, qry := a0.qry, hq := a0.hq } : U) = bareU a0 := by rw [← hX]; rfl
    have HDOOR := Lib.hid (show b = true → z ≠ 0 → okR a0 a1.data.toList = true → resR a0 a1.data.toList = X → doorU X = doorU a0 from fun h k e1 e2 => by
      have hm : mayU X = true := by rw [← e2]; exact res_may e1
      exact door_same hm (hb.trans h) (by rw [← hX]) (by rw [← hX]) (by rw [← hX]))
    have HRs := Lib.hid (fun (h1 : okR a0 a1.data.toList = true) (h2 : resR a0 a1.data.toList = X) y hm hs => resolve_any a0 v0 F0 (by have := P0.1; omega) hsc a1 (by omega) true h1 X h2 m y hm hs)
    have CMg := Lib.hid (fun y (hm : Six.At m y) hs => Path.merge_any v0 a0.path (by have := P0.1; omega) (fun t ht => by have := P0.2 t ht; omega) a1 (by omega) m y hm.max hs)
    have CPr := Lib.hid (fun y (hm : Six.At m y) => Path.parse_any a1 (by omega) m y hm.max)
    have CSh := Lib.hid (fun v y hs => show Calls Tryz.prog 26 #[v] y fun e w' => e = .returned (.string (tb (Path.show1 WP))) ∧ Below y.heap.size y w' from Path.show_any v WP (by have := hwpS.1; omega) (fun t ht => by have := hwpS.2 t ht; omega) y hs)
    obtain ⟨DT, hDT⟩ : ∃ q, tb (doorU a0) = q := ⟨_, rfl⟩
    have CDb := Lib.hid (fun y hm hs => Show.door_any a0 v0 F0 DT hDT m y hm hs)
    have CDx := Lib.hid (fun (h : doorU X = doorU a0) qv y hm hs => Show.door_any X qv hXF DT (by rw [h]; exact hDT) m y hm hs)
    have CB := Lib.hid (fun y hs => Show.bare_any a0 v0 F0 y hs)
    have CE := Lib.hid (fun p q y hp hq => same_any (bareU a0) (bareU a0) p q l0 l0 true ((same_iff _ _).2 rfl) y hp hq)
    have HX8 := Lib.hid (show X.h.p.length = 8 from hXF.h8)
    have HYY := Lib.hid hY
    have HXp := Lib.hid (show X.path = WP ∧ X.hq = false ∧ X.hf = false by rw [← hX]; exact ⟨rfl, rfl, rfl⟩)
    have HWP := Lib.hid hWP
    have HNN := Lib.hid hN
    have HSz := Lib.hid hs
    have HSl := Lib.hid (show ∀ h : 0 < a1.size, ((a1[0].toNat : Int) == 47) = sl from fun h => by
      have e := Pct.drop_cons a1 0 h
      rw [List.drop_zero] at e
      rw [← hsl]
      conv => rhs; rw [e]
      rw [pre_one, byte47'])
    have HD1 := Lib.hid (show a1.toList.isEmpty = true → D = true from fun h => by rw [← hD, show a1.data.toList.isEmpty = true from by rw [← Path.tl]; exact h]; rfl)
    have HD2 := Lib.hid (show a1.toList.isEmpty = false → ¬ 1 < a1.size → D = false ∧ 0 < a1.size from fun h k => by
      rw [← hD, show a1.data.toList.isEmpty = false from by rw [← Path.tl]; exact h, pre_short' a1 k]
      refine ⟨rfl, ?_⟩
      rcases Nat.eq_zero_or_pos a1.size with e | e
      · have : a1.data.toList = [] := List.length_eq_zero_iff.1 (by rw [size_list]; exact e)
        rw [Path.tl, this] at h
        cases h
      · exact e)
    have HD3 := Lib.hid (show a1.toList.isEmpty = false → ∀ (h0 : 0 < a1.size) (h1 : 1 < a1.size), D = (((a1[0].toNat : Int) == 47) && ((a1[1].toNat : Int) == 47)) from fun h h0 h1 => by
      rw [← hD, show a1.data.toList.isEmpty = false from by rw [← Path.tl]; exact h, pre_at' a1 h0 h1]; rfl)
    generalize tb (Path.show1 WP) = PS at CSh
    clear hbig hbig' hs hf0 F0 P0 hb hz hwh hN hsc hsl hWP hX hD hwpS hXF hY hDT
    have hu := HU2.out
    have hbg := HBg.out
    have hbh := HBh.out
    go_wp2_with ((with_reducible refine wp_load27 (o := ⟨some 27, .load 27 (.tmp 2), _, _, _, _⟩) ?_ (.tmp 2) ?_ w.heap.size ?_ a0 v0 l0 hu ?_); (· rfl); (· rfl); (· rfl); simp only [Act.put, List.setIfInBounds_toArray, List.set_cons_zero, List.set_cons_succ])
    refine (CA.out _ HM2.out HS2.out).mono ?_
    rintro e X3 ⟨rfl, hB⟩
    have HB3 := Lib.hid (below_trans HB2.out hB)
    have HU3 := Lib.hid (HU2.out.later hB)
    have HM3 := Lib.hid (HM2.out.later hB)
    have HS3 := Lib.hid (HS2.out.later hB)
    clear HB2 HU2 HM2 HS2
    clear hB hu CA
    cases b
    · go_wp2
      go_ret
      exact ⟨rfl, HX.out.trans (HB3.out.mono HX.out.size)⟩
    have c0 := HU3.out.cell 0
    rw [(cU_at a0 v0 l0).1, HNN.out] at c0
    go_wp2_with fail
    refine (CZ.out _).mono ?_
    rintro e XZ ⟨rfl, rfl⟩
    clear CZ c0
    by_cases h0 : z = 0
    · subst h0
      go_wp2
      go_ret
      exact ⟨rfl, HX.out.trans (HB3.out.mono HX.out.size)⟩
    have q0 : (z == 0) = false := beq_eq_false_iff_ne.2 h0
    go_wp2_with fail
    refine (CH.out _ HM3.out).mono ?_
    rintro e X4 ⟨rfl, hB⟩
    have HB4 := Lib.hid (below_trans HB3.out hB)
    have HU4 := Lib.hid (HU3.out.later hB)
    have HM4 := Lib.hid (HM3.out.later hB)
    have HS4 := Lib.hid (HS3.out.later hB)
    clear HB3 HU3 HM3 HS3
    clear hB CH hbg hbh HBg HBh
    cases wh
    · go_wp2_with fail
      go_loop [7] (fun i => ∃ k : Nat, k ≤ a1.size ∧ i = .int .i64 k ∧ Hid (∀ c ∈ a1.data.toList.take k, 32 < c.toNat ∧ c.toNat ≠ 63 ∧ c.toNat ≠ 35)) (fun i => a1.size - (intOf i).toNat)
      case atStart => exact ⟨0, Nat.zero_le _, rfl, Lib.hid (by simp)⟩
      case round =>
        obtain ⟨k, hk, rfl, HA⟩ := hrel
        have hsz := HSz.out
        by_cases hlt : k < a1.size
        · by_cases g0 : a1[k].toNat ≤ 32
          · have q0 : decide ((a1[k].toNat : Int) ≤ 32) = true := decide_eq_true (by omega)
            have q0' : decide (a1[k].toNat ≤ 32) = true := decide_eq_true g0
            go_wp2
            go_ret
            exact ⟨rfl, HX.out.trans (HB4.out.mono HX.out.size)⟩
          have q0 : decide ((a1[k].toNat : Int) ≤ 32) = false := decide_eq_false (by omega)
          have q0' : decide (a1[k].toNat ≤ 32) = false := decide_eq_false g0
          by_cases g1 : a1[k].toNat = 63
          · have q1 : ((a1[k].toNat : Int) == 63) = true := beq_iff_eq.2 (by omega)
            go_wp2
            go_ret
            exact ⟨rfl, HX.out.trans (HB4.out.mono HX.out.size)⟩
          have q1 : ((a1[k].toNat : Int) == 63) = false := beq_eq_false_iff_ne.2 (by omega)
          by_cases g2 : a1[k].toNat = 35
          · have q2 : ((a1[k].toNat : Int) == 35) = true := beq_iff_eq.2 (by omega)
            go_wp2
            go_ret
            exact ⟨rfl, HX.out.trans (HB4.out.mono HX.out.size)⟩
          have q2 : ((a1[k].toNat : Int) == 35) = false := beq_eq_false_iff_ne.2 (by omega)
          have HNx := Lib.hid (snoc_all (fun c => 32 < c.toNat ∧ c.toNat ≠ 63 ∧ c.toNat ≠ 35) a1 k hlt HA.out ⟨by omega, g1, g2⟩)
          clear HA g0 g1 g2
          go_wp2
          go_round
          case rel => exact ⟨k + 1, by omega, by go_num, HNx⟩
          case measure => simp [intOf]; omega
        · obtain rfl : k = a1.size := by omega
          have HAll := Lib.hid (take_all (fun c => 32 < c.toNat ∧ c.toNat ≠ 63 ∧ c.toNat ≠ 35) a1 HA.out)
          clear HA hlt hk
          go_upto_region 10 with fail
          go_cut [80] from 64 to 79 (fun v80 wx => v80 = .bool D ∧ Hid (D = false → 0 < a1.size) ∧ wx = X4)
          case first =>
            clear HRES HDOOR HRs CMg CPr CSh CDb CDx CB CE HWP HAll
            obtain ⟨e, he⟩ : ∃ q, a1.toList.isEmpty = q := ⟨_, rfl⟩
            cases e
            · by_cases h1 : 1 < a1.size
              · have h00 : 0 < a1.size := by omega
                have hD3 := HD3.out he h00 h1
                have HD4 := Lib.hid hD3
                clear hD3 HD1 HD2 HD3 HSl
                have q1 : decide ((1 : Int) < (a1.size : Int)) = true := decide_eq_true (by omega)
                have q1' : decide (1 < a1.size) = true := decide_eq_true h1
                obtain ⟨b1, q47⟩ : ∃ y, ((a1[0].toNat : Int) == 47) = y := ⟨_, rfl⟩
                obtain ⟨b2, q48⟩ : ∃ y, ((a1[1].toNat : Int) == 47) = y := ⟨_, rfl⟩
                rw [q47, q48] at HD4
                cases b1
                · go_wp2_with fail
                  go_meet
                  exact ⟨by rw [HD4.out]; rfl, Lib.hid (fun _ => h00), rfl⟩
                · go_wp2_with fail
                  go_meet
                  exact ⟨by rw [HD4.out]; rfl, Lib.hid (fun _ => h00), rfl⟩
              · have HD4 := Lib.hid (HD2.out he h1)
                clear HD1 HD2 HD3 HSl
                have q1 : decide ((1 : Int) < (a1.size : Int)) = false := decide_eq_false (by omega)
                have q1' : decide (1 < a1.size) = false := decide_eq_false h1
                go_wp2_with fail
                go_meet
                exact ⟨by rw [HD4.out.1], Lib.hid (fun _ => HD4.out.2), rfl⟩
            · have HD4 := Lib.hid (HD1.out he)
              clear HD1 HD2 HD3 HSl
              go_wp2_with fail
              go_meet
              exact ⟨by rw [HD4.out], Lib.hid (fun h => by rw [HD4.out] at h; cases h), rfl⟩
          case rest =>
            obtain ⟨rfl, HD0, hw⟩ := hcut
            subst hw
            clear HD1 HD2 HD3
            cases D
            · obtain ⟨hr1, hr2⟩ := HRES.out (by first | rfl | trivial) h0 (by first | rfl | trivial) (by first | rfl | trivial) HAll.out
              have h00 := HD0.out (by first | rfl | trivial)
              have hdoor := HDOOR.out (by first | rfl | trivial) h0 hr1 hr2
              have CR := Lib.hid (fun y hm hs => HRs.out hr1 hr2 y hm hs)
              have CD := Lib.hid (fun qv y hm hs => CDx.out hdoor qv y hm hs)
              have hsl := HSl.out h00
              have HQ47 := Lib.hid hsl
              clear HRES HDOOR HRs CDx hr1 hr2 hdoor hsl HSl HAll HD0
              have hu := HU4.out
              go_wp2_with ((with_reducible refine wp_load27 (o := ⟨some 82, .load 27 (.tmp 2), _, _, _, _⟩) ?_ (.tmp 2) ?_ w.heap.size ?_ a0 v0 l0 hu ?_); (· rfl); (· rfl); (· rfl); simp only [Act.put, List.setIfInBounds_toArray, List.set_cons_zero, List.set_cons_succ])
              refine (CR.out _ HM4.out HS4.out).mono ?_
              rintro e X6 ⟨qv, rfl, hst, hn, hB⟩
              clear hu CR
              have c15x := (HU4.out.later hB)
              clear c15x
              have hone := strs_one hst
              have hnew := new_url X6
              have hB2 := below_trans hB (below_url X6 X qv)
              have HB5 := Lib.hid (below_trans HB4.out hB2)
              have HU5 := Lib.hid (HU4.out.later hB2)
              have HM5 := Lib.hid (HM4.out.later hB2)
              have HS5 := Lib.hid (HS4.out.later hB2)
              have HP5 := Lib.hid (hst.later (below_url X6 X qv))
              have HY5 := Lib.hid (hnew.row X qv)
              have lx := HX8.out
              clear HB4 HU4 HM4 HS4 hst hn hB hB2
              go_upto_region 13 with ((with_reducible refine wp_store27 (o := ⟨none, .store 27 (.tmp 8) (.tmp 85), _, _, _, _⟩) ?_ (.tmp 8) (.tmp 85) ?_ X6.heap.size ?_ X qv ?_ lx hone none1 (.slice none 0 0) rfl hnew ?_); (· rfl); (· rfl); (· rfl); (· rfl); simp only [Act.put, List.setIfInBounds_toArray, List.set_cons_zero, List.set_cons_succ])
              generalize (X6.alloc (.cells #[.string ⟨#[]⟩, .string ⟨#[]⟩, .string ⟨#[]⟩, .int .i64 0, .string ⟨#[]⟩, .int .i64 0, .int .i64 0, .int .i64 0, .int .i64 0, .int .i64 0, .int .i64 0, .int .i64 0, .int .i64 0, .int .i64 0, .int .i64 0, .slice none 0 0, .string ⟨#[]⟩, .string ⟨#[]⟩, .string ⟨#[]⟩, .bool false, .bool false] 27)).setRow X6.heap.size (cU X qv) = V5 at HB5 HU5 HM5 HS5 HP5 HY5 ⊢
              generalize X6.heap.size = g1 at HY5 ⊢
              clear hnew hone lx
              have c15 := HU5.out.cell 15
              rw [(cU_at a0 v0 l0).2.2.2.2.2.1] at c15
              go_wp2_with fail
              refine (CMg.out _ HM5.out HS5.out).mono ?_
              rintro e X7 ⟨mv, rfl, hst, hB⟩
              clear c15 CMg
              have HMs := Lib.hid hst
              clear hst
              have HB6 := Lib.hid (below_trans HB5.out hB)
              have HU6 := Lib.hid (HU5.out.later hB)
              have HM6 := Lib.hid (HM5.out.later hB)
              have HS6 := Lib.hid (HS5.out.later hB)
              have HP6 := Lib.hid (HP5.out.later hB)
              have HY6 := Lib.hid (HY5.out.later hB)
              clear HB5 HU5 HM5 HS5 HP5 HY5
              clear hB
              have q47 := HQ47.out
              go_upto_if 93 with fail
              clear q47
              go_cut [10] from 94 to 95 (fun v10 wx => Hid (Path.Strs wx v10 WP) ∧ Hid (Below X7.heap.size X7 wx))
              case first =>
                cases sl
                · have hw : Path.merge a0.path a1.data.toList = WP := by rw [← HWP.out]; rfl
                  have HW2 := Lib.hid (show Path.Strs X7 mv WP from by rw [← hw]; exact HMs.out)
                  have HB9 := Lib.hid (Below.refl X7.heap.size X7)
                  clear hw HMs CPr
                  go_wp2_with fail
                  go_meet
                  exact ⟨HW2, HB9⟩
                · have hw : Path.parse a1.data.toList = WP := by rw [← HWP.out]; rfl
                  have HW2 := Lib.hid hw
                  clear hw HMs
                  go_wp2_with fail
                  refine (CPr.out _ HM6.out).mono ?_
                  rintro e X8 ⟨pw, rfl, hst, hB⟩
                  rw [HW2.out] at hst
                  have HS9 := Lib.hid hst
                  have HB9 := Lib.hid hB
                  clear hst hB CPr
                  go_wp2_with fail
                  go_meet
                  exact ⟨HS9, HB9⟩
              case rest =>
                obtain ⟨HT, hB⟩ := hcut
                have hB := hB.out
                have HB7 := Lib.hid (below_trans HB6.out hB)
                have HU7 := Lib.hid (HU6.out.later hB)
                have HM7 := Lib.hid (HM6.out.later hB)
                have HS7 := Lib.hid (HS6.out.later hB)
                have HP7 := Lib.hid (HP6.out.later hB)
                have HY7 := Lib.hid (HY6.out.later hB)
                clear HB6 HU6 HM6 HS6 HP6 HY6
                clear hB HMs CPr HQ47
                have HT7 := HT
                clear HT
                obtain ⟨W9, hW9⟩ : ∃ y, y = wc := ⟨_, rfl⟩
                subst hW9
                obtain ⟨va, vc, hv0, -⟩ := id HS7.out
                subst hv0
                have lx := HX8.out
                have hy := HY7.out
                have hone := strs_one HP7.out
                have hnew := new_url W9
                have hC := below_url W9 X qv
                have A1 := Lib.hid (show Apart W9.heap.size qv X.path from apart_old HP7.out (Nat.le_refl _))
                have A2 := Lib.hid (show Apart W9.heap.size (.slice va a0.path.length vc) a0.path from apart_old HS7.out (Nat.le_refl _))
                have A3 := Lib.hid (show Apart W9.heap.size u10 WP from apart_old HT7.out (Nat.le_refl _))
                have N1 := Lib.hid (show g1 < W9.heap.size from hy.lt)
                have N2 := Lib.hid (show w.heap.size < W9.heap.size from HU7.out.lt)
                have N0 := Lib.hid (show X0.heap.size ≤ W9.heap.size from HB7.out.size)
                have HMw := Lib.hid (HM7.out.later hC)
                have HB := Lib.hid (below_trans HB7.out hC)
                have HU := Lib.hid (HU7.out.later hC)
                have HY := Lib.hid (HY7.out.later hC)
                have HS := Lib.hid (HS7.out.later hC)
                have HP := Lib.hid (HP7.out.later hC)
                have HT := Lib.hid (HT7.out.later hC)
                have HK := Lib.hid (hnew.row X qv)
                clear HB7 HU7 HY7 HS7 HP7 HT7 HM7 hC
                go_upto_region 17 with (first | ((with_reducible refine wp_load27 (o := ⟨some 96, .load 27 (.tmp 8), _, _, _, _⟩) ?_ (.tmp 8) ?_ g1 ?_ X qv lx hy ?_); (· rfl); (· rfl); (· rfl); simp only [Act.put, List.setIfInBounds_toArray, List.set_cons_zero, List.set_cons_succ]) | ((with_reducible refine wp_store27 (o := ⟨none, .store 27 (.tmp 11) (.tmp 96), _, _, _, _⟩) ?_ (.tmp 11) (.tmp 96) ?_ W9.heap.size ?_ X qv ?_ lx hone none1 (.slice none 0 0) rfl hnew ?_); (· rfl); (· rfl); (· rfl); (· rfl); simp only [Act.put, List.setIfInBounds_toArray, List.set_cons_zero, List.set_cons_succ]))
                generalize (W9.alloc (.cells #[.string ⟨#[]⟩, .string ⟨#[]⟩, .string ⟨#[]⟩, .int .i64 0, .string ⟨#[]⟩, .int .i64 0, .int .i64 0, .int .i64 0, .int .i64 0, .int .i64 0, .int .i64 0, .int .i64 0, .int .i64 0, .int .i64 0, .int .i64 0, .slice none 0 0, .string ⟨#[]⟩, .string ⟨#[]⟩, .string ⟨#[]⟩, .bool false, .bool false] 27)).setRow W9.heap.size (cU X qv) = VA at HB HU HY HS HP HT HK HMw ⊢
                generalize W9.heap.size = g2 at A1 A2 A3 N1 N2 N0 HK ⊢
                clear hnew hy hone
                
                have dd := HK.out.cell 15
                rw [(cU_at X qv HX8.out).2.2.2.2.2.1] at dd
                have ff := HK.out.free 15
                have ee15 := HU.out.cell 15
                rw [(cU_at a0 (.slice va a0.path.length vc) l0).2.2.2.2.2.1] at ee15
                go_upto_region 18 with fail
                clear dd ff ee15
                have T1 := Lib.hid (show UrlAt (VA.setCell ⟨g2, 15, none⟩ (.slice va a0.path.length vc)) g2 _ _ from HK.out.pth HX8.out a0.path (.slice va a0.path.length vc))
                have T1HU := Lib.hid (url_set HU.out (by have := N2.out; omega : g2 ≠ w.heap.size) (j := 15) (.slice va a0.path.length vc))
                have T1HY := Lib.hid (url_set HY.out (by have := N1.out; omega : g2 ≠ g1) (j := 15) (.slice va a0.path.length vc))
                have T1HS := Lib.hid (strs_apart HS.out A2.out (fun k hk => set_other VA g2 15 (.slice va a0.path.length vc) (Ne.symm hk)))
                have T1HP := Lib.hid (strs_apart HP.out A1.out (fun k hk => set_other VA g2 15 (.slice va a0.path.length vc) (Ne.symm hk)))
                have T1HT := Lib.hid (strs_apart HT.out A3.out (fun k hk => set_other VA g2 15 (.slice va a0.path.length vc) (Ne.symm hk)))
                have T1B := Lib.hid (below_set HB.out N0.out 15 (.slice va a0.path.length vc))
                clear HK HU HY HS HP HT HB
                generalize VA.setCell ⟨g2, 15, none⟩ (.slice va a0.path.length vc) = Y1 at T1 T1HU T1HY T1HS T1HP T1HT T1B ⊢
                have HK := T1
                clear T1
                have HU := T1HU
                clear T1HU
                have HY := T1HY
                clear T1HY
                have HS := T1HS
                clear T1HS
                have HP := T1HP
                clear T1HP
                have HT := T1HT
                clear T1HT
                have HB := T1B
                clear T1B
                have dd := HK.out.cell 17
                rw [(cU_at _ _ (by exact HX8.out)).2.2.2.2.2.2.2.1] at dd
                have ff := HK.out.free 17
                have ee17 := HU.out.cell 17
                rw [(cU_at a0 (.slice va a0.path.length vc) l0).2.2.2.2.2.2.2.1] at ee17
                go_upto_region 19 with fail
                clear dd ff ee17
                have T2 := Lib.hid (show UrlAt (Y1.setCell ⟨g2, 17, none⟩ (.string (tb a0.qry))) g2 _ _ from HK.out.qry (by exact HX8.out) a0.qry)
                have T2HU := Lib.hid (url_set HU.out (by have := N2.out; omega : g2 ≠ w.heap.size) (j := 17) (.string (tb a0.qry)))
                have T2HY := Lib.hid (url_set HY.out (by have := N1.out; omega : g2 ≠ g1) (j := 17) (.string (tb a0.qry)))
                have T2HS := Lib.hid (strs_apart HS.out A2.out (fun k hk => set_other Y1 g2 17 (.string (tb a0.qry)) (Ne.symm hk)))
                have T2HP := Lib.hid (strs_apart HP.out A1.out (fun k hk => set_other Y1 g2 17 (.string (tb a0.qry)) (Ne.symm hk)))
                have T2HT := Lib.hid (strs_apart HT.out A3.out (fun k hk => set_other Y1 g2 17 (.string (tb a0.qry)) (Ne.symm hk)))
                have T2B := Lib.hid (below_set HB.out N0.out 17 (.string (tb a0.qry)))
                clear HK HU HY HS HP HT HB
                generalize Y1.setCell ⟨g2, 17, none⟩ (.string (tb a0.qry)) = Y2 at T2 T2HU T2HY T2HS T2HP T2HT T2B ⊢
                have HK := T2
                clear T2
                have HU := T2HU
                clear T2HU
                have HY := T2HY
                clear T2HY
                have HS := T2HS
                clear T2HS
                have HP := T2HP
                clear T2HP
                have HT := T2HT
                clear T2HT
                have HB := T2B
                clear T2B
                have dd := HK.out.cell 19
                rw [(cU_at _ _ (by exact HX8.out)).2.2.2.2.2.2.2.2.2.1] at dd
                have ff := HK.out.free 19
                have ee19 := HU.out.cell 19
                rw [(cU_at a0 (.slice va a0.path.length vc) l0).2.2.2.2.2.2.2.2.2.1] at ee19
                go_upto_region 20 with fail
                clear dd ff ee19
                have T3 := Lib.hid (show UrlAt (Y2.setCell ⟨g2, 19, none⟩ (.bool a0.hq)) g2 _ _ from HK.out.hq (by exact HX8.out) a0.hq)
                have T3HU := Lib.hid (url_set HU.out (by have := N2.out; omega : g2 ≠ w.heap.size) (j := 19) (.bool a0.hq))
                have T3HY := Lib.hid (url_set HY.out (by have := N1.out; omega : g2 ≠ g1) (j := 19) (.bool a0.hq))
                have T3HS := Lib.hid (strs_apart HS.out A2.out (fun k hk => set_other Y2 g2 19 (.bool a0.hq) (Ne.symm hk)))
                have T3HP := Lib.hid (strs_apart HP.out A1.out (fun k hk => set_other Y2 g2 19 (.bool a0.hq) (Ne.symm hk)))
                have T3HT := Lib.hid (strs_apart HT.out A3.out (fun k hk => set_other Y2 g2 19 (.bool a0.hq) (Ne.symm hk)))
                have T3B := Lib.hid (below_set HB.out N0.out 19 (.bool a0.hq))
                clear HK HU HY HS HP HT HB
                generalize Y2.setCell ⟨g2, 19, none⟩ (.bool a0.hq) = Y3 at T3 T3HU T3HY T3HS T3HP T3HT T3B ⊢
                have HK := T3
                clear T3
                have HU := T3HU
                clear T3HU
                have HY := T3HY
                clear T3HY
                have HS := T3HS
                clear T3HS
                have HP := T3HP
                clear T3HP
                have HT := T3HT
                clear T3HT
                have HB := T3B
                clear T3B
                have HKB := Lib.hid (show UrlAt Y3 g2 (bareU a0) (.slice va a0.path.length vc) from by rw [← HYY.out]; exact HK.out)
                have HM := Lib.hid (HMX.out.later HB.out)
                have HPW := Lib.hid (show Path.Strs Y3 qv WP from by rw [← HXp.out.1]; exact HP.out)
                have LB : (bareU a0).h.p.length = 8 := l0
                clear HK HP HMw
                have hc : Below Y3.heap.size Y3 Y3.drew := (Below.refl _ _).drew
                refine wp_region_held_drew (S := fun v => UrlAt v g1 X qv ∧ UrlAt v w.heap.size a0 (.slice va a0.path.length vc) ∧ UrlAt v g2 (bareU a0) (.slice va a0.path.length vc)) (by kernel_rfl) ⟨HY.out.later hc, HU.out.later hc, HKB.out.later hc⟩ (fun hS => ?_)
                refine wpAnyH_take (i := 0) (oi := ⟨some 106, .move (.tmp 9), _, _, _, _⟩) (v := .bool true) rfl (by kernel_rfl) (by kernel_rfl) (by kernel_rfl) (fun _ _ _ h => h) (Or.inl ⟨by rfl, ?_⟩) (by assumption) ?_
                · (intro v hv; go_simp)
                simp only [Act.put, List.setIfInBounds_toArray, List.set_cons_zero, List.set_cons_succ]
                refine wpAnyH_take (i := 1) (oi := ⟨some 107, .move (.tmp 106), _, _, _, _⟩) (v := .bool true) rfl (by kernel_rfl) (by kernel_rfl) (by kernel_rfl) (fun _ _ _ h => h) (Or.inl ⟨by rfl, ?_⟩) (by assumption) ?_
                · (intro v hv; go_simp)
                simp only [Act.put, List.setIfInBounds_toArray, List.set_cons_zero, List.set_cons_succ]
                refine wpAnyH_take (i := 2) (oi := ⟨some 108, .fieldAddr 27 (.tmp 8) 5, _, _, _, _⟩) (v := .pointer (some ⟨g1, 15, none⟩)) rfl (by kernel_rfl) (by kernel_rfl) (by kernel_rfl) (fun _ _ _ h => h) (Or.inl ⟨by rfl, ?_⟩) (by assumption) ?_
                · (intro v hv; go_simp)
                simp only [Act.put, List.setIfInBounds_toArray, List.set_cons_zero, List.set_cons_succ]
                refine wpAnyH_take (i := 3) (oi := ⟨some 109, .load 25 (.tmp 108), _, _, _, _⟩) (v := qv) rfl (by kernel_rfl) (by kernel_rfl) (by kernel_rfl) (fun _ _ _ h => h) (Or.inl ⟨by rfl, ?_⟩) (by assumption) ?_
                · (exact fun v hv => run_load_of 25 (.tmp 108) ⟨g1, 15, none⟩ rfl qv (load25 ((hv.1.cell 15).trans (cU_at X qv HX8.out).2.2.2.2.2.1)))
                simp only [Act.put, List.setIfInBounds_toArray, List.set_cons_zero, List.set_cons_succ]
                refine wpAnyH_take (i := 5) (oi := ⟨some 111, .move (.tmp 10), _, _, _, _⟩) (v := u10) rfl (by kernel_rfl) (by kernel_rfl) (by kernel_rfl) (fun _ _ _ h => h) (Or.inl ⟨by rfl, ?_⟩) (by assumption) ?_
                · (intro v hv; go_simp)
                simp only [Act.put, List.setIfInBounds_toArray, List.set_cons_zero, List.set_cons_succ]
                refine wpAnyH_ready (rs := [4]) (by kernel_rfl) (by simp) ?_
                refine AllReadyH.cons (o := ⟨some 110, .call ⟨.value (.func 26), #[.tmp 109], _⟩, _, _, _, _⟩) rfl (fun K hK => ?_) AllReadyH.nil
                go_simp
                go_at_call 26
                refine (CSh.out qv _ (HPW.out.later hc)).mono ?_
                rintro e x ⟨rfl, hB⟩
                have hc := below_trans hc hB
                refine hK.out _ _ ⟨HY.out.later hc, HU.out.later hc, HKB.out.later hc⟩ (fun hS => ?_)
                clear hB
                refine wpAnyH_ready (rs := [6]) (by kernel_rfl) (by simp) ?_
                refine AllReadyH.cons (o := ⟨some 112, .call ⟨.value (.func 26), #[.tmp 111], _⟩, _, _, _, _⟩) rfl (fun K hK => ?_) AllReadyH.nil
                go_simp
                go_at_call 26
                refine (CSh.out u10 _ (HT.out.later hc)).mono ?_
                rintro e x ⟨rfl, hB⟩
                have hc := below_trans hc hB
                refine hK.out _ _ ⟨HY.out.later hc, HU.out.later hc, HKB.out.later hc⟩ (fun hS => ?_)
                clear hB
                refine wpAnyH_take (i := 7) (oi := ⟨some 113, .binOp .eql 9 (.tmp 110) (.tmp 112) 9, _, _, _, _⟩) (v := .bool true) rfl (by kernel_rfl) (by kernel_rfl) (by kernel_rfl) (fun _ _ _ h => h) (Or.inl ⟨by rfl, ?_⟩) (by assumption) ?_
                · (intro v hv; go_simp)
                simp only [Act.put, List.setIfInBounds_toArray, List.set_cons_zero, List.set_cons_succ]
                refine wpAnyH_take (i := 8) (oi := ⟨some 114, .pick (.tmp 107) (.tmp 113) (.const (.bool false)), _, _, _, _⟩) (v := .bool true) rfl (by kernel_rfl) (by kernel_rfl) (by kernel_rfl) (fun _ _ _ h => h) (Or.inl ⟨by rfl, ?_⟩) (by assumption) ?_
                · (intro v hv; go_simp)
                simp only [Act.put, List.setIfInBounds_toArray, List.set_cons_zero, List.set_cons_succ]
                refine wpAnyH_take (i := 9) (oi := ⟨some 115, .move (.tmp 114), _, _, _, _⟩) (v := .bool true) rfl (by kernel_rfl) (by kernel_rfl) (by kernel_rfl) (fun _ _ _ h => h) (Or.inl ⟨by rfl, ?_⟩) (by assumption) ?_
                · (intro v hv; go_simp)
                simp only [Act.put, List.setIfInBounds_toArray, List.set_cons_zero, List.set_cons_succ]
                refine wpAnyH_take (i := 10) (oi := ⟨some 116, .fieldAddr 27 (.tmp 8) 9, _, _, _, _⟩) (v := .pointer (some ⟨g1, 19, none⟩)) rfl (by kernel_rfl) (by kernel_rfl) (by kernel_rfl) (fun _ _ _ h => h) (Or.inl ⟨by rfl, ?_⟩) (by assumption) ?_
                · (intro v hv; go_simp)
                simp only [Act.put, List.setIfInBounds_toArray, List.set_cons_zero, List.set_cons_succ]
                refine wpAnyH_take (i := 11) (oi := ⟨some 117, .load 4 (.tmp 116), _, _, _, _⟩) (v := .bool false) rfl (by kernel_rfl) (by kernel_rfl) (by kernel_rfl) (fun _ _ _ h => h) (Or.inl ⟨by rfl, ?_⟩) (by assumption) ?_
                · (exact fun v hv => run_load_of 4 (.tmp 116) ⟨g1, 19, none⟩ rfl (.bool false) (by have := load4 ((hv.1.cell 19).trans (cU_at X qv HX8.out).2.2.2.2.2.2.2.2.2.1); rw [HXp.out.2.1] at this; exact this))
                simp only [Act.put, List.setIfInBounds_toArray, List.set_cons_zero, List.set_cons_succ]
                refine wpAnyH_take (i := 12) (oi := ⟨some 118, .unOp .not 4 (.tmp 117), _, _, _, _⟩) (v := .bool true) rfl (by kernel_rfl) (by kernel_rfl) (by kernel_rfl) (fun _ _ _ h => h) (Or.inl ⟨by rfl, ?_⟩) (by assumption) ?_
                · (intro v hv; go_simp)
                simp only [Act.put, List.setIfInBounds_toArray, List.set_cons_zero, List.set_cons_succ]
                refine wpAnyH_take (i := 13) (oi := ⟨some 119, .pick (.tmp 115) (.tmp 118) (.const (.bool false)), _, _, _, _⟩) (v := .bool true) rfl (by kernel_rfl) (by kernel_rfl) (by kernel_rfl) (fun _ _ _ h => h) (Or.inl ⟨by rfl, ?_⟩) (by assumption) ?_
                · (intro v hv; go_simp)
                simp only [Act.put, List.setIfInBounds_toArray, List.set_cons_zero, List.set_cons_succ]
                refine wpAnyH_take (i := 14) (oi := ⟨some 120, .move (.tmp 119), _, _, _, _⟩) (v := .bool true) rfl (by kernel_rfl) (by kernel_rfl) (by kernel_rfl) (fun _ _ _ h => h) (Or.inl ⟨by rfl, ?_⟩) (by assumption) ?_
                · (intro v hv; go_simp)
                simp only [Act.put, List.setIfInBounds_toArray, List.set_cons_zero, List.set_cons_succ]
                refine wpAnyH_take (i := 15) (oi := ⟨some 121, .fieldAddr 27 (.tmp 8) 10, _, _, _, _⟩) (v := .pointer (some ⟨g1, 20, none⟩)) rfl (by kernel_rfl) (by kernel_rfl) (by kernel_rfl) (fun _ _ _ h => h) (Or.inl ⟨by rfl, ?_⟩) (by assumption) ?_
                · (intro v hv; go_simp)
                simp only [Act.put, List.setIfInBounds_toArray, List.set_cons_zero, List.set_cons_succ]
                refine wpAnyH_take (i := 16) (oi := ⟨some 122, .load 4 (.tmp 121), _, _, _, _⟩) (v := .bool false) rfl (by kernel_rfl) (by kernel_rfl) (by kernel_rfl) (fun _ _ _ h => h) (Or.inl ⟨by rfl, ?_⟩) (by assumption) ?_
                · (exact fun v hv => run_load_of 4 (.tmp 121) ⟨g1, 20, none⟩ rfl (.bool false) (by have := load4 ((hv.1.cell 20).trans (cU_at X qv HX8.out).2.2.2.2.2.2.2.2.2.2); rw [HXp.out.2.2] at this; exact this))
                simp only [Act.put, List.setIfInBounds_toArray, List.set_cons_zero, List.set_cons_succ]
                refine wpAnyH_take (i := 17) (oi := ⟨some 123, .unOp .not 4 (.tmp 122), _, _, _, _⟩) (v := .bool true) rfl (by kernel_rfl) (by kernel_rfl) (by kernel_rfl) (fun _ _ _ h => h) (Or.inl ⟨by rfl, ?_⟩) (by assumption) ?_
                · (intro v hv; go_simp)
                simp only [Act.put, List.setIfInBounds_toArray, List.set_cons_zero, List.set_cons_succ]
                refine wpAnyH_take (i := 18) (oi := ⟨some 124, .pick (.tmp 120) (.tmp 123) (.const (.bool false)), _, _, _, _⟩) (v := .bool true) rfl (by kernel_rfl) (by kernel_rfl) (by kernel_rfl) (fun _ _ _ h => h) (Or.inl ⟨by rfl, ?_⟩) (by assumption) ?_
                · (intro v hv; go_simp)
                simp only [Act.put, List.setIfInBounds_toArray, List.set_cons_zero, List.set_cons_succ]
                refine wpAnyH_take (i := 19) (oi := ⟨some 125, .move (.tmp 124), _, _, _, _⟩) (v := .bool true) rfl (by kernel_rfl) (by kernel_rfl) (by kernel_rfl) (fun _ _ _ h => h) (Or.inl ⟨by rfl, ?_⟩) (by assumption) ?_
                · (intro v hv; go_simp)
                simp only [Act.put, List.setIfInBounds_toArray, List.set_cons_zero, List.set_cons_succ]
                refine wpAnyH_take (i := 20) (oi := ⟨some 126, .load 27 (.tmp 11), _, _, _, _⟩) (v := .agg (cU (bareU a0) (.slice va a0.path.length vc))) rfl (by kernel_rfl) (by kernel_rfl) (by kernel_rfl) (fun _ _ _ h => h) (Or.inl ⟨by rfl, ?_⟩) (by assumption) ?_
                · (exact fun v hv => run_load_of 27 (.tmp 11) ⟨g2, 0, none⟩ rfl (.agg (cU (bareU a0) (.slice va a0.path.length vc))) (hv.2.2.load LB))
                simp only [Act.put, List.setIfInBounds_toArray, List.set_cons_zero, List.set_cons_succ]
                refine wpAnyH_take (i := 21) (oi := ⟨some 127, .load 27 (.tmp 2), _, _, _, _⟩) (v := .agg (cU a0 (.slice va a0.path.length vc))) rfl (by kernel_rfl) (by kernel_rfl) (by kernel_rfl) (fun _ _ _ h => h) (Or.inl ⟨by rfl, ?_⟩) (by assumption) ?_
                · (exact fun v hv => run_load_of 27 (.tmp 2) ⟨w.heap.size, 0, none⟩ rfl (.agg (cU a0 (.slice va a0.path.length vc))) (hv.2.1.load l0))
                simp only [Act.put, List.setIfInBounds_toArray, List.set_cons_zero, List.set_cons_succ]
                refine wpAnyH_ready (rs := [22]) (by kernel_rfl) (by simp) ?_
                refine AllReadyH.cons (o := ⟨some 128, .call ⟨.value (.func 23), #[.tmp 127], _⟩, _, _, _, _⟩) rfl (fun K hK => ?_) AllReadyH.nil
                go_simp
                go_at_call 23
                refine (CB.out _ (HS.out.later hc)).mono ?_
                rintro e x ⟨b1, rfl, hb1, hnw, hB⟩
                have hc := below_trans hc hB
                refine hK.out _ _ ⟨HY.out.later hc, HU.out.later hc, HKB.out.later hc⟩ (fun hS => ?_)
                clear hB hnw
                refine wpAnyH_ready (rs := [23]) (by kernel_rfl) (by simp) ?_
                refine AllReadyH.cons (o := ⟨some 129, .call ⟨.value (.func 18), #[.tmp 126, .tmp 128], _⟩, _, _, _, _⟩) rfl (fun K hK => ?_) AllReadyH.nil
                go_simp
                go_at_call 18
                refine (CE.out (.slice va a0.path.length vc) b1 _ (HS.out.later hc) hb1).mono ?_
                rintro e x ⟨rfl, hB⟩
                have hc := below_trans hc hB
                refine hK.out _ _ ⟨HY.out.later hc, HU.out.later hc, HKB.out.later hc⟩ (fun hS => ?_)
                clear hB hb1
                refine wpAnyH_take (i := 24) (oi := ⟨some 130, .pick (.tmp 125) (.tmp 129) (.const (.bool false)), _, _, _, _⟩) (v := .bool true) rfl (by kernel_rfl) (by kernel_rfl) (by kernel_rfl) (fun _ _ _ h => h) (Or.inl ⟨by rfl, ?_⟩) (by assumption) ?_
                · (intro v hv; go_simp)
                simp only [Act.put, List.setIfInBounds_toArray, List.set_cons_zero, List.set_cons_succ]
                refine wpAnyH_take (i := 25) (oi := ⟨some 131, .move (.tmp 130), _, _, _, _⟩) (v := .bool true) rfl (by kernel_rfl) (by kernel_rfl) (by kernel_rfl) (fun _ _ _ h => h) (Or.inl ⟨by rfl, ?_⟩) (by assumption) ?_
                · (intro v hv; go_simp)
                simp only [Act.put, List.setIfInBounds_toArray, List.set_cons_zero, List.set_cons_succ]
                refine wpAnyH_take (i := 26) (oi := ⟨some 132, .load 27 (.tmp 8), _, _, _, _⟩) (v := .agg (cU X qv)) rfl (by kernel_rfl) (by kernel_rfl) (by kernel_rfl) (fun _ _ _ h => h) (Or.inl ⟨by rfl, ?_⟩) (by assumption) ?_
                · (exact fun v hv => run_load_of 27 (.tmp 8) ⟨g1, 0, none⟩ rfl (.agg (cU X qv)) (hv.1.load HX8.out))
                simp only [Act.put, List.setIfInBounds_toArray, List.set_cons_zero, List.set_cons_succ]
                refine wpAnyH_take (i := 28) (oi := ⟨some 134, .load 27 (.tmp 2), _, _, _, _⟩) (v := .agg (cU a0 (.slice va a0.path.length vc))) rfl (by kernel_rfl) (by kernel_rfl) (by kernel_rfl) (fun _ _ _ h => h) (Or.inl ⟨by rfl, ?_⟩) (by assumption) ?_
                · (exact fun v hv => run_load_of 27 (.tmp 2) ⟨w.heap.size, 0, none⟩ rfl (.agg (cU a0 (.slice va a0.path.length vc))) (hv.2.1.load l0))
                simp only [Act.put, List.setIfInBounds_toArray, List.set_cons_zero, List.set_cons_succ]
                refine wpAnyH_ready (rs := [27]) (by kernel_rfl) (by simp) ?_
                refine AllReadyH.cons (o := ⟨some 133, .call ⟨.value (.func 27), #[.tmp 132], _⟩, _, _, _, _⟩) rfl (fun K hK => ?_) AllReadyH.nil
                go_simp
                go_at_call 27
                refine (CD.out qv _ (HM.out.later hc) (by rw [HXp.out.1]; exact HPW.out.later hc)).mono ?_
                rintro e x ⟨rfl, hB⟩
                have hc := below_trans hc hB
                refine hK.out _ _ ⟨HY.out.later hc, HU.out.later hc, HKB.out.later hc⟩ (fun hS => ?_)
                clear hB
                refine wpAnyH_ready (rs := [29]) (by kernel_rfl) (by simp) ?_
                refine AllReadyH.cons (o := ⟨some 135, .call ⟨.value (.func 27), #[.tmp 134], _⟩, _, _, _, _⟩) rfl (fun K hK => ?_) AllReadyH.nil
                go_simp
                go_at_call 27
                refine (CDb.out _ (HM.out.later hc) (HS.out.later hc)).mono ?_
                rintro e x ⟨rfl, hB⟩
                have hc := below_trans hc hB
                refine hK.out _ _ ⟨HY.out.later hc, HU.out.later hc, HKB.out.later hc⟩ (fun hS => ?_)
                clear hB
                refine wpAnyH_take (i := 30) (oi := ⟨some 136, .binOp .eql 9 (.tmp 133) (.tmp 135) 9, _, _, _, _⟩) (v := .bool true) rfl (by kernel_rfl) (by kernel_rfl) (by kernel_rfl) (fun _ _ _ h => h) (Or.inl ⟨by rfl, ?_⟩) (by assumption) ?_
                · (intro v hv; go_simp)
                simp only [Act.put, List.setIfInBounds_toArray, List.set_cons_zero, List.set_cons_succ]
                refine wpAnyH_take (i := 31) (oi := ⟨some 137, .pick (.tmp 131) (.tmp 136) (.const (.bool false)), _, _, _, _⟩) (v := .bool true) rfl (by kernel_rfl) (by kernel_rfl) (by kernel_rfl) (fun _ _ _ h => h) (Or.inl ⟨by rfl, ?_⟩) (by assumption) ?_
                · (intro v hv; go_simp)
                simp only [Act.put, List.setIfInBounds_toArray, List.set_cons_zero, List.set_cons_succ]
                refine wpAnyH_take (i := 32) (oi := ⟨some 4, .assign (.tmp 137), _, _, _, _⟩) (v := .bool true) rfl (by kernel_rfl) (by kernel_rfl) (by kernel_rfl) (fun _ _ _ h => h) (Or.inl ⟨by rfl, ?_⟩) (by assumption) ?_
                · (intro v hv; go_simp)
                simp only [Act.put, List.setIfInBounds_toArray, List.set_cons_zero, List.set_cons_succ]
                refine wpAnyH_done (by kernel_rfl) ?_ _
                go_wp2
                go_ret
                exact ⟨rfl, HX.out.trans ((below_trans HB.out hc).mono HX.out.size)⟩
            · go_wp2
              go_ret
              exact ⟨rfl, HX.out.trans (HB4.out.mono HX.out.size)⟩
    · go_wp2
      go_ret
      exact ⟨rfl, HX.out.trans (HB4.out.mono HX.out.size)⟩
  · go_wp2
    go_ret
    exact ⟨rfl, HX.out.trans (HB2.out.mono HX.out.size)⟩

/-! ### The row's step -/
theorem reads (os : Os) {H : Type} (enc : TypeId × Value → H) : (DataW.whole enc Tryz.prog ((Card.laidWorld os).forCall (fun _ _ => 0) ⟨#[], #[.agg #[.string ByteArray.empty, .string ByteArray.empty, .string ByteArray.empty, .int .i64 0, .string ByteArray.empty, .int .i64 0, .int .i64 0, .int .i64 0, .int .i64 0, .int .i64 0, .int .i64 0, .int .i64 0, .int .i64 0, .int .i64 0, .int .i64 0, .slice none 0 0, .string ByteArray.empty, .string ByteArray.empty, .string ByteArray.empty, .bool false, .bool false], .string ByteArray.empty], []⟩).memory Tryz.f6.params.toList Rows.joinPathSpec.vars false (#[.agg #[.string ByteArray.empty, .string ByteArray.empty, .string ByteArray.empty, .int .i64 0, .string ByteArray.empty, .int .i64 0, .int .i64 0, .int .i64 0, .int .i64 0, .int .i64 0, .int .i64 0, .int .i64 0, .int .i64 0, .int .i64 0, .int .i64 0, .slice none 0 0, .string ByteArray.empty, .string ByteArray.empty, .string ByteArray.empty, .bool false, .bool false], .string ByteArray.empty] : Array Value).toList 8).map (fun x => (x.1, x.2.1)) = some ([.agg [.lit (.string []), .lit (.string []), .lit (.string []), .agg [.lit (.int .i64 0), .lit (.string []), .lit (.int .i64 0), .agg [.lit (.int .i64 0), .lit (.int .i64 0), .lit (.int .i64 0), .lit (.int .i64 0), .lit (.int .i64 0), .lit (.int .i64 0), .lit (.int .i64 0), .lit (.int .i64 0)]], .lit (.int .i64 0), .nil, .lit (.string []), .lit (.string []), .lit (.string []), .lit (.bool false), .lit (.bool false)], .lit (.string [])], []) := by kernel_rfl
set_option maxRecDepth 100000 in
theorem lifted (os : Os) (started : os.Started) (H : Type) (enc : TypeId × Value → H) (F : Stop.Interp) :
    ReturnsInHanded {} Tryz.checked os 6 .any ((OpenSpec.ofChange Rows.joinPathSpec).preRow enc Tryz.prog Tryz.f6 Rows.joinPathRow.domain false Rows.joinPathRow.laid) (((OpenSpec.ofChange Rows.joinPathSpec).at F).post enc Tryz.prog Tryz.f6 false true false false) := by
  obtain ⟨⟨x1, x2, x3⟩, hx, hx1⟩ := Option.map_eq_some_iff.1 (reads os enc)
  simp only [Prod.mk.injEq] at hx1
  obtain ⟨rfl, rfl⟩ := hx1
  refine returnsInHanded_of_row (C := Tryz.checked) (s := OpenSpec.ofChange Rows.joinPathSpec) own started (by kernel_rfl) Tryz.func6
    (witness_row_at (enc := enc) (C := Tryz.checked) false (Card.laidWorld os) #[.agg #[.string ByteArray.empty, .string ByteArray.empty, .string ByteArray.empty, .int .i64 0, .string ByteArray.empty, .int .i64 0, .int .i64 0, .int .i64 0, .int .i64 0, .int .i64 0, .int .i64 0, .int .i64 0, .int .i64 0, .int .i64 0, .int .i64 0, .slice none 0 0, .string ByteArray.empty, .string ByteArray.empty, .string ByteArray.empty, .bool false, .bool false], .string ByteArray.empty] rfl (by kernel_rfl) (by kernel_rfl) (by kernel_rfl)
      (OpenSpec.preRow_of_cond 8 hx (by kernel_rfl) (fun k hk => by cases hk) (by kernel_rfl) (Card.laid_met os _))) ?_
  intro W base args ds gs before hval0 hW _ _ _ hL hsh _
  obtain ⟨m, hmax⟩ := Card.maxLen_int hsh
  have hm : Six.At m W := ⟨hmax, Six.tab_of hL⟩
  have hval : ∀ (j : Nat) t v, Tryz.f6.params[j]? = some t → args[j]? = some v → Value.okWide Tryz.prog W .any base t v := hval0
  have hW' := hW
  obtain ⟨p, q, hA0, hV, rfl, hfz, hnd⟩ := hW
  have hA : DataW.TrodAll enc Tryz.prog W 0 (fun _ => true) true Tryz.f6.params.toList args.toList ds p := hA0
  rw [Tryz.params6] at hA hval
  obtain ⟨v0, vs0, d0, ds0, p0, q0, hargs0, rfl, rfl, t0, r0⟩ := trodAll_cons hA
  obtain ⟨v1, vs1, d1, ds1, p1, q1, hargs1, rfl, rfl, t1, r1⟩ := trodAll_cons r0
  obtain ⟨rfl, rfl, rfl⟩ := trodAll_nil r1
  obtain rfl : args = #[v0, v1] := by cases args; simp_all
  obtain ⟨rfl, rfl⟩ := trodVars_none hV
  have k0 := t0
  have lt0 : ∀ x ∈ p0, x.block < W.heap.size := by obtain ⟨m, hm⟩ := k0; exact DataW.trod_lt m _ _ _ hm
  obtain ⟨a0, pv0, l0, rfl, z0, w0⟩ := Url.open_url (hval 0 27 v0 rfl rfl) t0
  obtain ⟨a1, rfl, rfl, rfl, w1⟩ := open_string Tryz.underlying9 (hval 1 9 v1 rfl rfl) t1
  clear hA0 hval0
  simp only [List.append_nil] at hW'
  refine (walk a0 pv0 l0 a1 w1 m W hm z0 w0).mono fun e W' ⟨he, bel⟩ => ?_
  subst he
  exact ⟨_, rfl, _, _, _, [], _, [], hW', trodAll_mk1 (shut_bool Tryz.underlying4 _), (trodAll_cons_mk (Below.trod laidOut (by kernel_rfl) (of_decide_eq_true (by kernel_rfl)) k0 bel lt0) (trodAll_cons_mk (shut_string Tryz.underlying9 w1) trodAll_mk0)), rfl, bel.frame _, fun h => by cases h⟩

theorem said : Rows.joinPathRow.holds Tryz.pinned (OpenSpec.ofChange Rows.joinPathSpec) :=
  OpenClaim.holds_of_cond 6 Tryz.f6 rfl rfl rfl rfl rfl rfl rfl ⟨rfl, rfl, rfl, rfl, rfl⟩ rfl rfl rfl rfl rfl (by kernel_rfl) Tryz.func6 (by kernel_rfl)
    (of_decide_eq_true (by kernel_rfl)) (by unfold Func.isWrapper; first | (rw [if_pos (by decide +kernel)]; kernel_rfl) | (rw [if_neg (by decide +kernel)]; exact ⟨rfl, rfl⟩))
    (fun os started H enc _ F => by rw [OpenClaim.pre_eq_preRow]; exact lifted os started H enc F)

/-- No parameter wants a stand-in; the program's own looks are on. -/
theorem plain (f : FuncId) (fn : Func) (hf : Tryz.pinned.checked.prog.funcNamed Rows.joinPathRow.func = some f) (hfn : Tryz.pinned.checked.prog.funcs[f]? = some fn) :
    true = Tryz.pinned.checked.prog.looks [] ∧ ∀ (j : Nat) t, fn.params[j]? = some t → Tryz.pinned.checked.prog.wantsStandIn t = false := by
  obtain rfl : f = 6 := Option.some.inj ((show Tryz.prog.funcNamed Rows.joinPathRow.func = some 6 by kernel_rfl).symm.trans hf) |>.symm
  obtain rfl : fn = Tryz.f6 := (Option.some.inj (Tryz.func6.symm.trans hfn)).symm
  refine ⟨by kernel_rfl, fun j t ht => ?_⟩
  rw [Tryz.params6] at ht
  obtain rfl | rfl : t = 27 ∨ t = 9 := by simpa using Array.mem_of_getElem? ht
  · exact (show Tryz.prog.wantsStandIn 27 = false by kernel_rfl)
  · exact (show Tryz.prog.wantsStandIn 9 = false by kernel_rfl)

/-- The statement: the card. -/
theorem proved : Rows.JoinPathCardSaid :=
  Claim7.holds_tied_plain_at .later [] _ _ _ _ said (fun _ h => by cases h) (by kernel_rfl) (fun _ h => by cases h) joinPath_row_tie rfl ⟨rfl, rfl⟩ (by kernel_rfl) rfl plain (by kernel_rfl)
#print axioms proved
end Go.Proofs.YtkhjhiofgoampaaGreatDoor.joinPath
