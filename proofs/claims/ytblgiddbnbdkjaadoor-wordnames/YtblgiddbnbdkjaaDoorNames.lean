/- WordNames (P1.1: words of ops, and ops of words) is proved: for every text s and every number op of 8 bits it answers true and leaves its arguments as they were; the table of words is taken as the program's text lays it, which the card ties. -/
import Derived.Test.YtblgiddbnbdkjaaDoorFind
import Derived.Test.YtblgiddbnbdkjaaDoorLaid
import Derived.Test.YtblgiddbnbdkjaaDoorTie
import Derived.Test.YtblgiddbnbdkjaaDoorCards
import Derived.SevenTiedAt
import Derived.ShutString
namespace Go.Proofs.YtblgiddbnbdkjaaDoor
open Go.ChangeShapes Go.WideShapes Go.ChangeAt Go.RowKit
open Go.ChangeMaps (open_string shut_string)
def litsA : Array Value := #[.string ⟨#[97, 100, 100]⟩, .string ⟨#[115, 117, 98]⟩, .string ⟨#[109, 117, 108]⟩, .string ⟨#[100, 105, 118]⟩, .string ⟨#[114, 101, 109]⟩, .string ⟨#[97, 110, 100]⟩, .string ⟨#[111, 114]⟩, .string ⟨#[120, 111, 114]⟩, .string ⟨#[115, 104, 108]⟩, .string ⟨#[115, 104, 114]⟩, .string ⟨#[101, 113]⟩, .string ⟨#[108, 116]⟩]
theorem lits_cell (w : World) (j : Nat) (h : j < 12) : (w.alloc (.cells litsA 9)).cell? ⟨w.heap.size, j, none⟩ = some (.string (wordS j)) := by
  unfold World.cell? World.alloc
  simp only [Array.getElem?_push_size]
  rcases below12 h with rfl | rfl | rfl | rfl | rfl | rfl | rfl | rfl | rfl | rfl | rfl | rfl <;> rfl
def FindS (s : ByteArray) (r : Int) (okb : Bool) : Prop := ∀ w, WordsH w → Calls Tryd.prog 11 #[.string s] w fun e w' => e = .returned (.tuple #[.int .u8 r, .bool okb]) ∧ w = w'
set_option maxRecDepth 100000 in
set_option maxHeartbeats 4000000 in
theorem names_go (s : ByteArray) (o : Int) (h0 : 0 ≤ o) (h1 : o ≤ 255) (w : World) (hb : WordsH w) (f : Nat → Int) (hf0 : f 0 = -1)
    (hstep : ∀ j, j < 12 → ((wordS j).toList == s.toList) = true ∧ f (j + 1) = j ∨ ((wordS j).toList == s.toList) = false ∧ f (j + 1) = f j) (r : Int) (okb : Bool) (hfind : FindS s r okb)
    (hend : okb = true ∧ f 12 = r ∧ 0 ≤ r ∧ r < 12 ∨ okb = false ∧ f 12 = -1) :
    Calls Tryd.prog 4 #[.string s, .int .u8 o] w fun e w' => e = .returned (.bool true) ∧ Grown w w' := by
  have hf0' : Hid (f 0 = -1) := hf0
  have hstep' : Hid (∀ j, j < 12 → ((wordS j).toList == s.toList) = true ∧ f (j + 1) = j ∨ ((wordS j).toList == s.toList) = false ∧ f (j + 1) = f j) := hstep
  have hend' : Hid (okb = true ∧ f 12 = r ∧ 0 ≤ r ∧ r < 12 ∨ okb = false ∧ f 12 = -1) := hend
  clear hf0 hstep hend
  go_enter Tryd.func4, Tryd.ntmps4
  go_wp2_with (first | (go_at_call 8; refine (awake _ hb.words).mono ?_; rintro e w' ⟨rfl, rfl⟩))
  have hb1 : WordsH (w.alloc (.cells litsA 9)) := hb.alloc _
  have hg1 : Grown w (w.alloc (.cells litsA 9)) := Grown.alloc (Grown.refl _) _ _
  have hc1 := lits_cell w
  change Code.wp _ _ _ _ (w.alloc (.cells litsA 9))
  generalize w.alloc (.cells litsA 9) = W1 at *
  have hc1' : Hid (∀ j, j < 12 → W1.cell? ⟨w.heap.size, j, none⟩ = some (.string (wordS j))) := hc1
  clear hc1
  go_loop [6, 19] (fun fd i => ∃ j : Nat, j ≤ 12 ∧ i = .int .i64 j ∧ fd = .int .i64 (f j)) (fun _ i => 12 - (intOf i).toNat)
  case atStart => exact ⟨0, by omega, rfl, by rw [hf0'.out]⟩
  case round =>
    obtain ⟨j, hj, rfl, rfl⟩ := hrel
    by_cases hlt : j < 12
    · have hcell := hc1'.out j hlt
      have hname := hb1.words j hlt
      have hst := hstep'.out j hlt
      rcases hst with ⟨hm, hfj⟩ | ⟨hm, hfj⟩
      · have HF : Hid (f (j + 1) = j) := hfj
        clear hfj
        rcases below12 hlt with rfl | rfl | rfl | rfl | rfl | rfl | rfl | rfl | rfl | rfl | rfl | rfl
        all_goals
          go_wp2_with (first | (go_at_call 11; refine (find_at _ hlt _ hb1).mono ?_; rintro e w' ⟨rfl, rfl⟩) | (go_at_call 12; refine (name_in _ (by omega) (by omega) _ _ hname).mono ?_; rintro e w' ⟨rfl, rfl⟩) | (go_at_call 13; go_in) | (go_at_call 14; go_in))
          go_round
          case rel => exact ⟨_, hlt, by go_num, by rw [HF.out]; rfl⟩
          case measure => simp [intOf]
      · have HF : Hid (f (j + 1) = f j) := hfj
        clear hfj
        rcases below12 hlt with rfl | rfl | rfl | rfl | rfl | rfl | rfl | rfl | rfl | rfl | rfl | rfl
        all_goals
          go_wp2_with (first | (go_at_call 11; refine (find_at _ hlt _ hb1).mono ?_; rintro e w' ⟨rfl, rfl⟩) | (go_at_call 12; refine (name_in _ (by omega) (by omega) _ _ hname).mono ?_; rintro e w' ⟨rfl, rfl⟩) | (go_at_call 13; go_in) | (go_at_call 14; go_in))
          go_round
          case rel => exact ⟨_, hlt, by go_num, by rw [HF.out]⟩
          case measure => simp [intOf]
    · have hj12 : j = 12 := by omega
      subst hj12
      have hhi : 12 ≤ o → turnsB o = false ∧ trapsB o = false := fun h => ⟨by unfold turnsB; rw [decide_eq_false_iff_not]; omega, by unfold trapsB; rw [decide_eq_false_iff_not]; omega⟩
      have H1 : Hid (12 ≤ o → turnsB o = false ∧ trapsB o = false) := hhi
      clear hhi
      have hd := hend'.out
      rcases hd with ⟨hok, hfr, hr0, hr1⟩ | ⟨hok, hfr⟩
      · subst hok
        have hfp : 0 ≤ f 12 := by omega
        have hfe : (r == f 12) = true := by rw [hfr]; simp
        clear hfr
        by_cases ho : o < 12
        · go_wp2_with (first | (go_at_call 11; refine (hfind _ hb1).mono ?_; rintro e w' ⟨rfl, rfl⟩))
          go_ret
          exact ⟨rfl, hg1⟩
        · obtain ⟨ht, hp⟩ := H1.out (by omega)
          go_wp2_with (first | (go_at_call 11; refine (hfind _ hb1).mono ?_; rintro e w' ⟨rfl, rfl⟩) | (go_at_call 12; refine (name_no _ (by omega) _).mono ?_; rintro e w' ⟨rfl, rfl⟩) | (go_at_call 13; refine (traps_any _ _).mono ?_; rintro e w' ⟨rfl, rfl⟩) | (go_at_call 14; refine (turns_any _ _).mono ?_; rintro e w' ⟨rfl, rfl⟩))
          go_ret
          exact ⟨rfl, hg1⟩
      · subst hok
        have hfp : f 12 < 0 := by omega
        have hfd : decide (0 ≤ f 12) = false := by rw [decide_eq_false_iff_not]; omega
        clear hfr
        by_cases ho : o < 12
        · go_wp2_with (first | (go_at_call 11; refine (hfind _ hb1).mono ?_; rintro e w' ⟨rfl, rfl⟩))
          go_ret
          exact ⟨rfl, hg1⟩
        · obtain ⟨ht, hp⟩ := H1.out (by omega)
          go_wp2_with (first | (go_at_call 11; refine (hfind _ hb1).mono ?_; rintro e w' ⟨rfl, rfl⟩) | (go_at_call 12; refine (name_no _ (by omega) _).mono ?_; rintro e w' ⟨rfl, rfl⟩) | (go_at_call 13; refine (traps_any _ _).mono ?_; rintro e w' ⟨rfl, rfl⟩) | (go_at_call 14; refine (turns_any _ _).mono ?_; rintro e w' ⟨rfl, rfl⟩))
          go_ret
          exact ⟨rfl, hg1⟩
theorem names_any (s : ByteArray) (o : Int) (h0 : 0 ≤ o) (h1 : o ≤ 255) (w : World) (hb : WordsH w) :
    Calls Tryd.prog 4 #[.string s, .int .u8 o] w fun e w' => e = .returned (.bool true) ∧ Grown w w' := by
  by_cases hx : ∃ n, n < 12 ∧ wordS n = s
  · obtain ⟨n, hn, hs⟩ := hx
    refine names_go s o h0 h1 w hb (fun j => if n < j then (n : Int) else -1) rfl ?_ n true ?_ (Or.inl ⟨rfl, by simp [hn], by omega, by omega⟩)
    · intro j hj
      by_cases e : j = n
      · subst e; exact Or.inl ⟨str_eq hs, by simp⟩
      · refine Or.inr ⟨str_ne (fun h => e (words_apart j n hj hn (h.trans hs.symm))), ?_⟩
        show (if n < j + 1 then (n : Int) else -1) = if n < j then (n : Int) else -1
        by_cases g : n < j
        · rw [if_pos g, if_pos (by omega)]
        · rw [if_neg g, if_neg (by omega)]
    · intro w' hw'
      subst hs
      exact find_at n hn w' hw'
  · have hno : ∀ i, i < 12 → ¬ wordS i = s := fun i hi h => hx ⟨i, hi, h⟩
    exact names_go s o h0 h1 w hb (fun _ => -1) rfl (fun j hj => Or.inr ⟨str_ne (hno j hj), rfl⟩) 0 false (fun w' hw' => find_no s hno w' hw') (Or.inr ⟨rfl, rfl⟩)
theorem wordsH_of_laid {W : World} (h : laidMetH Tryd.prog lay W) : WordsH W := by
  have hw := words_of_laid h
  rw [MakeChecks.laidMetH_plain _ _ _ (by kernel_rfl)] at h
  obtain ⟨ps, ⟨g0, t0, cs0, f0, p0, q0, hg0, ht0, hv0, hd0, _⟩, _, _⟩ := h
  obtain rfl := Option.some.inj (gWords.symm.trans hg0)
  obtain rfl := Option.some.inj (tWords.symm.trans ht0)
  obtain ⟨xs, m, rfl, hx, hlen, hn, hel⟩ := DataW.trod_array Tryd.underlying45 hd0
  have hl : cs0.size = 12 := by
    have c45 : Tryd.prog.cellsOf 45 = 12 := by kernel_rfl
    rw [c45] at hlen; simpa using hlen
  have hcs : cs0 = wordsA := by
    apply Array.ext
    · rw [hl]; rfl
    · intro i h1 h2
      have hc := World.var?_cell hg0 hv0 i
      rw [hw i (by omega), Array.getElem?_eq_getElem h1] at hc
      have hc' := Option.some.inj hc
      rw [← hc']
      have hi : i < 12 := by omega
      rcases below12 hi with rfl | rfl | rfl | rfl | rfl | rfl | rfl | rfl | rfl | rfl | rfl | rfl <;> rfl
  subst hcs
  unfold World.var? at hv0
  rw [hg0, Option.bind_some] at hv0
  split at hv0
  · rename_i cs t fr he
    cases hv0
    exact ⟨t, fr, he⟩
  · cases hv0
theorem wordNames_walk (s : ByteArray) (o : Int) (_ws : s.size ≤ maxLen) (wo : (Lit.int .u8 o).wf = true) (w : World) (hb : WordsH w) :
    Calls Tryd.prog 4 #[.string s, .int .u8 o] w fun e w' => e = .returned (.bool true) ∧ Grown w w' :=
  names_any s o (wf_u8 wo).1 (wf_u8 wo).2 w hb

set_option maxRecDepth 100000 in
theorem wordNames_lifted (os : Os) (started : os.Started) (H : Type) (enc : TypeId × Value → H) :
    ReturnsInHanded {} Tryd.checked os 4 .any (fun w args => (Rows.wordNamesSpec.pre enc Tryd.prog Tryd.f4 [] false w args ∧ laidMetH Tryd.prog lay w) ∧ sizedMet enc Tryd.prog Tryd.f4 (OpenSpec.ofChange Rows.wordNamesSpec) false w args)
      (Rows.wordNamesSpec.post enc Tryd.prog Tryd.f4 false true false false) := by
  refine returnsInHanded_of_change_and (C := Tryd.checked) (X := fun w _ => laidMetH Tryd.prog lay w) (fun _ _ _ hh h => h.of_heap hh) own started (by kernel_rfl) Tryd.func4
    (ChangeSpec.witness_shaped (enc := enc) (C := Tryd.checked) (os := os) (X := fun w _ => laidMetH Tryd.prog lay w) false (World.doorLaid Tryd.prog 14 os) #[.string ⟨#[]⟩, .int .u8 0] 8 rfl (World.shaped_of_RefB (by kernel_rfl) (by kernel_rfl)) (by kernel_rfl) (by kernel_rfl) (by kernel_rfl) (door_met os _)) ?_
  intro W base args ds gs before hval0 hW _ _ hL _
  have hval : ∀ (j : Nat) t v, Tryd.f4.params[j]? = some t → args[j]? = some v → Value.okWide Tryd.prog W .any base t v := hval0
  have hW' := hW
  obtain ⟨p, q, hA0, hV, rfl, hfz, hnd⟩ := hW
  have hA : DataW.TrodAll enc Tryd.prog W 0 (fun _ => true) true Tryd.f4.params.toList args.toList ds p := hA0
  rw [Tryd.params4] at hA hval
  obtain ⟨v0, v1, d0, d1, p0, p1, rfl, rfl, rfl, h0, h1⟩ := trodAll_two hA
  obtain ⟨rfl, rfl⟩ := trodVars_none hV
  obtain ⟨a0, rfl, rfl, rfl, w0⟩ := open_string Tryd.underlying9 (hval 0 9 v0 rfl rfl) h0
  obtain ⟨a1, rfl, rfl, rfl, w1⟩ := open_int Tryd.underlying5 (hval 1 5 v1 rfl rfl) h1
  have hWords := wordsH_of_laid hL
  clear hA0 hval0
  simp only [List.append_nil] at hW'
  refine (wordNames_walk a0 a1 w0 w1 W hWords).mono fun e W' ⟨he, hg⟩ => ?_
  subst he
  exact ⟨_, rfl, post_of_same (pa := []) (pv := []) hW' (fun _ _ _ => trodAll_mk1 (shut_bool Tryd.underlying4 _)) (fun sp _ => (trodAll_cons_mk (shut_string Tryd.underlying9 w0) (trodAll_cons_mk (shut_int Tryd.underlying5 w1) trodAll_mk0))) (fun _ _ => rfl) rfl
    (hg.frame _) hg.2.1 (ok_one (by kernel_rfl) rfl (okWide_bool_mk Tryd.underlying4 _))⟩

theorem wordNames_holds : Rows.WordNamesSaid :=
  OpenClaim.holds_of_wide 4 Tryd.f4 rfl rfl rfl rfl rfl rfl rfl ⟨rfl, rfl, rfl, rfl, rfl⟩ rfl rfl rfl rfl rfl (by kernel_rfl) Tryd.func4 (by kernel_rfl)
    (of_decide_eq_true (by kernel_rfl)) (by unfold Func.isWrapper; first | (rw [if_pos (by decide +kernel)]; kernel_rfl) | (rw [if_neg (by decide +kernel)]; exact ⟨rfl, rfl⟩))
    (fun os started H enc _ => wordNames_lifted os started H enc)

theorem wordNames_card : Rows.WordNamesCardSaid :=
  Claim7.holds_tied_plain_at .later [] [.data] true Rows.wordNamesCard.stood.harness false
    wordNames_holds (fun _ h => by cases h) (by kernel_rfl) (fun _ h => by cases h) wordNames_row_tie rfl ⟨rfl, rfl⟩ (by kernel_rfl) rfl
    (fun f fn hf hfn => by
      obtain rfl : f = 4 := Option.some.inj ((show Tryd.prog.funcNamed Rows.wordNamesRow.func = some 4 by kernel_rfl).symm.trans hf) |>.symm
      obtain rfl : fn = Tryd.f4 := (Option.some.inj (Tryd.func4.symm.trans hfn)).symm
      exact ⟨by kernel_rfl, fun j t ht => by
        rw [Tryd.params4] at ht
        have hm : t ∈ [9, 5] := by simpa using Array.mem_of_getElem? ht
        have hall : ([9, 5].all fun u => !Tryd.prog.wantsStandIn u) = true := by kernel_rfl
        exact (show Tryd.prog.wantsStandIn t = false by simpa using List.all_eq_true.1 hall t hm)⟩)
    (by kernel_rfl)
#print axioms wordNames_card
end Go.Proofs.YtblgiddbnbdkjaaDoor
