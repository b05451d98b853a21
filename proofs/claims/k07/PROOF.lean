import PyProof.Rows.All
import Wide.All
import OpenK.AllK
import Wide.FinOn
import PyProof.EqAt
import PyProof.EqKinds
import PyProof.TupleCall
import HandS.ForMost
import HandS.Exc
import HandS.IsInst
import HandS.ExcInit
import HandS.ExcIs
import HandS.WordsExc
import HandS.ExcOwn
import HandS.ExcValue
import HandS.ExcField
import HandS.Walk
import HandS.Zip
import HandS.More
import HandS.TupLe
import HandS.TupAny
import HandS.DictComp
import HandS.WideBits
import HandS.Conv
import HandS.SortRule
import HandS.SortInts
import HandS.TupMul
import HandS.Lambda
import HandS.EndTab
import HandS.Set
import HandS.SetFor
import HandS.Strs
import HandS.TryMany
import HandS.ExcInit
import KE.KRevSl
import HandS.Flow
import KE.KStateDown
import HandS.Defaults
import HandS.Head0
import HandS.Head1
import HandS.Head2
import HandS.HeadEnd
import HandS.HeadHook1
import HandS.HeadHook2
import HandS.HeadHook3
import HandS.HeadHook4
import HandS.Deep
import PySem.Challenge.RW_ripewaves_k07_whole_what_a_write_brings

set_option Elab.async false
set_option linter.all false
set_option maxRecDepth 100000
set_option maxHeartbeats 8000000
/-! The bag of picks: how it is made of the script, how a number is picked out of it, how a thing is. -/
namespace Rip
open PySem PySem.Spec PyProof.Rows L2
def top (i : Nat) : Stmt := PySem.Challenge.pw_ripewaves_k07_whole_what_a_write_brings.main.body.getD i (.Pass ⟨0, 0, 0, 0⟩)
abbrev sBag : Stmt := top 31
abbrev sPick : Stmt := top 32
abbrev sSome : Stmt := top 33
/-! ### small things about heaps and lists -/
theorem same_upd {H : Hp} {p : Addr} {o : HO} (h : H p = none) : Same H (upd H p o) := fun b x e => by
  rw [upd_ne (ne_of_none e h)]
  exact e
theorem same_put {H H' : Hp} {p : Addr} {o : HO} (s : Same H H') (h : H p = none) : Same H (upd H' p o) := fun b x e => by
  rw [upd_ne (ne_of_none e h)]
  exact s _ _ e
theorem ints_cut {ns : List Int} {lo hi : Option Int} {x : V} (h : x ∈ cutV (ns.map V.int) lo hi) : ∃ n, x = .int n := by
  unfold cutV at h
  obtain ⟨n, _, e⟩ := List.mem_map.mp (List.mem_of_mem_drop (List.mem_of_mem_take h))
  exact ⟨n, e.symm⟩
theorem at_mem {α : Type} {xs : List α} {i : Nat} {x : α} (h : xs[i]? = some x) : x ∈ xs := List.mem_of_getElem? h
theorem at_lt {α : Type} {xs : List α} {i : Nat} {x : α} (h : xs[i]? = some x) : i < xs.length := (List.getElem?_eq_some_iff.mp h).1
theorem ite_ok {c : Prop} [Decidable c] {A B : Prop} (h1 : c → A) (h2 : ¬ c → B) : if decide c = true then A else B := by
  by_cases h : c
  · rw [if_pos (decide_eq_true h)]; exact h1 h
  · rw [if_neg (by simpa using h)]; exact h2 h
/-! ### the bag -/
/-- at b the bag, its list of great numbers at g -/
structure BagAt (H : Hp) (b g : Addr) : Prop where
  ob : ∃ (s c : Int) (al : V), H b = some (.lst [.int s, .int c, .ref g, al]) ∧ (al = .non ∨ ∃ m, al = .int m)
  gr : ∃ gs : List Int, H g = some (.lst (gs.map V.int))
theorem BagAt.ne {H : Hp} {b g : Addr} (h : BagAt H b g) : b ≠ g := by
  obtain ⟨s, c, al, hb, _⟩ := h.ob
  obtain ⟨gs, hg⟩ := h.gr
  refine ne_of hb hg fun e => ?_
  injection e with e
  match gs, e with
  | [_, _, _, _], e => simp at e
  | [_, _, _], e => simp at e
/-- what stood elsewhere stands -/
def SameB (b g : Addr) (H H' : Hp) : Prop := ∀ c o, H c = some o → c ≠ b → c ≠ g → H' c = some o
theorem SameB.refl (b g : Addr) (H : Hp) : SameB b g H H := fun _ _ h _ _ => h
theorem SameB.trans {b g : Addr} {H H1 H2 : Hp} (x : SameB b g H H1) (y : SameB b g H1 H2) : SameB b g H H2 := fun c o h n m => y c o (x c o h n m) n m
theorem SameB.of {b g : Addr} {H H1 : Hp} (x : Same H H1) : SameB b g H H1 := fun c o h _ _ => x c o h
theorem BagAt.same {H H' : Hp} {b g : Addr} (h : BagAt H b g) (x : Same H H') : BagAt H' b g := by
  obtain ⟨s, c, al, hb, ha⟩ := h.ob
  obtain ⟨gs, hg⟩ := h.gr
  exact ⟨⟨s, c, al, x _ _ hb, ha⟩, gs, x _ _ hg⟩
/-- the names of the builtins that stand -/
structure Blt (mg : Str → Option Value) : Prop where
  len : mg "len" = none
  int : mg "int" = none
  abs : mg "abs" = none
  sum : mg "sum" = none
  all : mg "all" = none
  zip : mg "zip" = none
  range : mg "range" = none
  enumerate : mg "enumerate" = none
  isinstance : mg "isinstance" = none
  tuple : mg "tuple" = none
  list : mg "list" = none
  bool : mg "bool" = none
section
variable {P : Program} {w : World} {K : PySem.W.Frag} {mg : Str → Option Value} {base : Heap}
def spBag (K : PySem.W.Frag) : Sp := fun vs H Q _ => ∃ (a : Addr) (ns : List Int), vs = [.ref a] ∧ SqL K H a (ns.map V.int) ∧ ns.length ≤ 63 ∧
  ∀ (b g : Addr) (H' : Hp), Same H H' → H b = none → H g = none → BagAt H' b g → Q (.ref b) H'
abbrev scBN : List Str := ["_law_script", "_law_seed", "_law_cell", "_law_great", "_law_always"]
theorem scB : FnScope scBN ["_law_script"] (defScope sBag) := ⟨rfl, rfl, rfl, by decide +kernel, rfl, by decide +kernel, by decide +kernel⟩
set_option pp.proofs false in
theorem ok_bag {f : Addr} {fd : FuncData} (F : Fun K "_law_bag" "_law_bag" sBag f fd) (T : Blt mg) : FnOk P w K mg base CX0 1 f fd ["_law_script"] (spBag K) := by
  refine F.ok scB (fun vs H Q E h => ?_) (fun cdv A outer s H vs Q E hr h => ?_)
  · obtain ⟨a, ns, rfl, _⟩ := h
    rfl
  · obtain ⟨a, ns, rfl, hS, hlen, q⟩ := h
    refine ⟨_,
      (pss_cons (ps_set (i := 1) scB.nd rfl (.inl rfl) (pe_op op_add pe_int (pe_callB call_len_seq (by rfl) T.len PySem.boot_len (pa_cons (pv 0) pa_nil))))
      (pss_cons (ps_for PassesOwn.never rfl (pi_list (pe_slice sl_list (pv 0) po_none (po_some pe_int))) (pg_name (i := 2) scB.nd rfl (.inl rfl))
        (pss_one (ps_set (i := 1) scB.nd rfl (.inl rfl) (pe_op op_mod (pe_callTy call_int1 (by rfl) T.int PyProof.Rows.boot_int (pa_cons (pe_op op_add (pe_op op_add (pe_op op_mul (pv 1) pe_int) (pe_op op_mod (pe_callTy call_int1 (by rfl) T.int PyProof.Rows.boot_int (pa_cons (pv 2) pa_nil)) pe_int)) pe_int) pa_nil)) pe_int))))
      (pss_cons (ps_setLc (i := 3) (own := [("_law_cell", 2)]) (g := (gName 2)) (tt := _) rfl scB.nd rfl rfl (sw_true rfl rfl rfl (by decide +kernel)) (pi_list (pe_slice sl_list (pv 0) po_none (po_some pe_int))) (blkOk_by (own := [("_law_cell", 2)]) (N := scBN) (sc := defScope sBag) (by decide +kernel)) (fun _ _ _ _ _ => (pg_name (i := 2) scB.nd rfl (.inl rfl))) (fun _ _ _ _ _ => (pts_one (pt_cmpR op_ge (pe_callB call_abs (by rfl) T.abs PyProof.Rows.boot_abs (pa_cons (pe_callTy call_int1 (by rfl) T.int PyProof.Rows.boot_int (pa_cons (pv 2) pa_nil)) pa_nil)) (pe_op op_pow pe_int pe_int) (nomark _)))) (fun _ _ _ _ _ => (pe_callB call_abs (by rfl) T.abs PyProof.Rows.boot_abs (pa_cons (pe_callTy call_int1 (by rfl) T.int PyProof.Rows.boot_int (pa_cons (pv 2) pa_nil)) pa_nil))))
      (pss_cons (ps_set (i := 4) scB.nd rfl (.inl rfl) pe_non)
      (pss_cons (ps_if (pw_and (pt_cmpR op_lt (pe_callB call_len_seq (by rfl) T.len PySem.boot_len (pa_cons (pv 0) pa_nil)) pe_int (nomark _)) (pw_and1 (pt_cmpR op_eq (pe_callB call_len_seq (by rfl) T.len PySem.boot_len (pa_cons (pv 3) pa_nil)) pe_int (nomark _)))).pt
        (pss_one (ps_set (i := 4) scB.nd rfl (.inl rfl) (pe_callB call_abs (by rfl) T.abs PyProof.Rows.boot_abs (pa_cons (pe_callB (cr_sum rfl) (by rfl) T.sum PyProof.Rows.boot_sum (pa_cons (pe_lc (own := [("_law_cell", 2)]) (g := (gName 2)) (tt := tYes) rfl scB.nd (pi_list (pv 0)) (blkOk_by (own := [("_law_cell", 2)]) (N := scBN) (sc := defScope sBag) (by decide +kernel)) (fun _ _ _ _ _ => (pg_name (i := 2) scB.nd rfl (.inl rfl))) (fun _ _ _ _ _ => pts_nil) (fun _ _ _ _ _ => (pe_callTy call_int1 (by rfl) T.int PyProof.Rows.boot_int (pa_cons (pv 2) pa_nil)))) pa_nil)) pa_nil)))) pss_nil)
      (pss_one (ps_ret (pe_lst (pa_cons (pv 1) (pa_cons pe_int (pa_cons (pv 3) (pa_cons (pv 4) pa_nil)))))))))))), ?_⟩
    -- the seed's start
    refine ⟨_, rfl, a, _, rfl, .inl hS, _, _, rfl, rfl, ?_⟩
    -- the loop
    refine ⟨_, rfl, 63, rfl, a, _, rfl, hS, fun c nc => ?_⟩
    have s1 : Same H (upd H c (.lst (cutV (ns.map V.int) none (some 63)))) := same_upd nc
    refine ⟨c, rfl, ⟨_, .inl (.inl upd_same)⟩, for_list (K := K) (a := c) (xs := cutV (ns.map V.int) none (some 63)) (fun i σ H2 => ∃ (s : Int) (v : Option V), σ = [some (.ref a), some (.int s), v, none, none] ∧ Same H H2 ∧ H2 c = some (.lst (cutV (ns.map V.int) none (some 63))))
      ⟨_, none, rfl, s1, upd_same⟩ (fun i σ H2 _ ⟨_, _, _, _, e⟩ => .inl (.inl e)) ?_ ?_⟩
    · rintro i y σ H2 hi ⟨s, v, rfl, s2, ec⟩
      obtain ⟨n, rfl⟩ := ints_cut (at_mem hi)
      exact ⟨_, rfl, _, _, rfl, rfl, .inr ⟨by decide, by decide⟩, _, rfl, .inl ⟨n, rfl, _, _, rfl, rfl, (by show (0 : Int) < 1000003; decide), _, _, rfl, rfl, _, _, rfl, rfl, .inl ⟨_, rfl, _, _, rfl, rfl, (by show (0 : Int) < 2147483647; decide), _, _, rfl, s2, ec⟩⟩⟩
    · rintro σ H2 ⟨s, v, rfl, s2, ec⟩
      -- the great ones
      refine ⟨_, rfl, 63, rfl, a, _, rfl, s2.seq hS, fun c2 nc2 => ?_⟩
      refine ⟨c2, rfl, ⟨_, .inl (.inl upd_same)⟩, fun D nD => ?_⟩
      have n2 : D ≠ c2 := fun e => by
        rw [e, upd_same] at nD
        cases nD
      have sD : Same H2 (upd (upd H2 c2 (.lst (cutV (ns.map V.int) none (some 63)))) D (.lst [])) := (same_upd nc2).trans (same_upd nD)
      have hl : (cutV (ns.map V.int) none (some 63)).length ≤ 63 := Nat.le_trans (cutV_length _ _ _) (by rw [List.length_map]; exact hlen)
      refine lc_list (K := K) (a := c2) (xs := cutV (ns.map V.int) none (some 63)) (fun i H3 => Same H2 H3 ∧ H3 c2 = some (.lst (cutV (ns.map V.int) none (some 63))) ∧ ∃ gs : List Int, H3 D = some (.lst (gs.map V.int)) ∧ gs.length ≤ i)
        ⟨sD, by rw [upd_ne n2.symm, upd_same], [], upd_same, Nat.zero_le _⟩ (fun i H3 _ ⟨_, e, _⟩ => .inl (.inl e)) ?_ ?_
      · rintro i y H3 hi ⟨s3, e3, gs, eD, hg⟩
        have hi' := at_lt hi
        obtain ⟨n, rfl⟩ := ints_cut (at_mem hi)
        refine ⟨rfl, _, rfl, .inl ⟨n, rfl, _, rfl, _, _, rfl, rfl, ⟨by decide, by decide, by decide⟩, _, _, rfl, rfl, _, rfl, ?_⟩⟩
        have app : ∀ (z : Int) (y : V), y = V.int z → Same H2 (upd H3 D (.lst (gs.map V.int ++ [y]))) ∧ upd H3 D (.lst (gs.map V.int ++ [y])) c2 = some (.lst (cutV (ns.map V.int) none (some 63))) ∧ ∃ gs' : List Int, upd H3 D (.lst (gs.map V.int ++ [y])) D = some (.lst (gs'.map V.int)) ∧ gs'.length ≤ i + 1 := fun z y ey => by
          subst ey
          exact ⟨same_put s3 ((same_upd nc2).free nD), by rw [upd_ne n2.symm]; exact e3, gs ++ [z], by rw [upd_same]; exact congrArg (fun l => some (HO.lst l)) (List.map_append (f := V.int) (l₁ := gs) (l₂ := [z])).symm, by rw [List.length_append]; exact Nat.succ_le_succ hg⟩
        refine ite_ok (fun _ => ?_) fun _ => ⟨s3, e3, gs, eD, by omega⟩
        exact ⟨_, rfl, .inl ⟨n, rfl, _, rfl, _, eD, (by rw [List.length_map]; exact small1000 (by omega)), app _ _ rfl⟩⟩
      · rintro H3 ⟨s3, e3, gs, eD, hg⟩
        have sH3 : Same H H3 := s2.trans s3
        have fin : ∀ (al : V) (H4 : Hp), (al = .non ∨ ∃ m, al = .int m) → Same H3 H4 → ∀ l : Addr, H4 l = none → Q (.ref l) (upd H4 l (.lst [.int s, .int 1, .ref D, al])) := fun al H4 ha s4 l nl => by
          have hD4 := s4 _ _ eD
          have nl3 : H3 l = none := s4.free nl
          have nlH : H l = none := sH3.free nl3
          have nlD : D ≠ l := ne_of_none hD4 nl
          exact q l D _ (same_put (sH3.trans s4) nlH) nlH (s2.free ((same_upd nc2).free nD)) ⟨⟨s, 1, al, upd_same, ha⟩, gs, by rw [upd_ne nlD]; exact hD4⟩
        refine ⟨_, rfl, a, _, rfl, .inl (sH3.seq hS), _, _, rfl, rfl, _, rfl, ite_ok (fun h1 => ?_) fun h1 => ?_⟩
        · refine ⟨_, rfl, D, _, rfl, .inl (.inl (.inl eD)), rfl, _, rfl, ite_ok (fun h2 => ?_) fun h2 => ?_⟩
          · refine ⟨_, rfl, a, rfl, ⟨_, sH3.seq hS⟩, fun D2 nD2 => ?_⟩
            refine lc_list (K := K) (a := a) (xs := ns.map V.int) (fun i H4 => Same H3 H4 ∧ ∃ ms : List Int, H4 D2 = some (.lst (ms.map V.int)) ∧ ms.length ≤ i)
              ⟨same_upd nD2, [], upd_same, Nat.zero_le _⟩ (fun i H4 _ ⟨s4, _⟩ => (sH3.trans s4).seq hS) ?_ ?_
            · rintro i y H4 hi ⟨s4, ms, eM, hm⟩
              have hi' := at_lt hi
              rw [List.length_map] at hi'
              obtain ⟨n, _, rfl⟩ := List.mem_map.mp (at_mem hi)
              exact ⟨rfl, _, rfl, .inl ⟨n, rfl, _, eM, (by rw [List.length_map]; exact small1000 (by omega)), same_put s4 nD2, ms ++ [n], by rw [upd_same]; exact congrArg (fun l => some (HO.lst l)) (List.map_append (f := V.int) (l₁ := ms) (l₂ := [n])).symm, by rw [List.length_append]; exact Nat.succ_le_succ hm⟩⟩
            · rintro H4 ⟨s4, ms, eM, hm⟩
              exact ⟨D2, ms, rfl, .inl (.inl eM), _, rfl, _, rfl, _, rfl, _, rfl, (by show 4 ≤ sizeLine; rw [sizeLine_eq]; decide), fin _ H4 (.inr ⟨_, rfl⟩) s4⟩
          · exact ⟨_, rfl, _, rfl, _, rfl, (by show 4 ≤ sizeLine; rw [sizeLine_eq]; decide), fin .non H3 (.inl rfl) (Same.refl _)⟩
        · exact ⟨_, rfl, _, rfl, _, rfl, (by show 4 ≤ sizeLine; rw [sizeLine_eq]; decide), fin .non H3 (.inl rfl) (Same.refl _)⟩
/-! ### a number picked: from 0 on, below m -/
def spPick : Sp := fun vs H Q _ => ∃ (b g : Addr) (m : Int), vs = [.ref b, .int m] ∧ BagAt H b g ∧ 0 < m ∧ m < 1073741824 ∧
  ∀ (r : Int) (H' : Hp), 0 ≤ r → r < m → BagAt H' b g → SameB b g H H' → Q (.int r) H'
abbrev scPN : List Str := ["_law_bag_here", "_law_many", "_law_great", "_law_digit", "_law_number"]
theorem scP : FnScope scPN ["_law_bag_here", "_law_many"] (defScope sPick) := ⟨rfl, rfl, rfl, by decide +kernel, rfl, by decide +kernel, by decide +kernel⟩
theorem mod_lo {x m : Int} (h : 0 < m) : 0 ≤ x % m := Int.emod_nonneg _ (by omega)
theorem mod_hi {x m : Int} (h : 0 < m) : x % m < m := Int.emod_lt_of_pos _ h
theorem ok_pick {f : Addr} {fd : FuncData} (F : Fun K "_law_pick" "_law_pick" sPick f fd) (T : Blt mg) : FnOk P w K mg base CX0 1 f fd ["_law_bag_here", "_law_many"] spPick := by
  refine F.ok scP (fun vs H Q E h => ?_) (fun cdv A outer s H vs Q E hr h => ?_)
  · obtain ⟨b, g, m, rfl, _⟩ := h
    rfl
  · obtain ⟨b, g, m, rfl, B, h0, h1, q⟩ := h
    obtain ⟨⟨s1, c1, al, hb, ha⟩, gs, hg⟩ := id B
    have bg : b ≠ g := B.ne
    refine ⟨_,
      (pss_cons (ps_if (pt_cmp (pc_notN (pe_ix ix_list (pv 0) pe_int (fun _ _ => rfl))))
        (pss_one (ps_ret (pe_op op_mod (pe_callTy call_int1 (by rfl) T.int PyProof.Rows.boot_int (pa_cons (pe_ix ix_list (pv 0) pe_int (fun _ _ => rfl)) pa_nil)) (pv 1)))) pss_nil)
      (pss_cons (ps_asg (pe_op op_add (pe_ix ix_list (pv 0) pe_int (fun _ _ => rfl)) pe_int) (pg_sub (pv 0) pe_int set_list))
      (pss_cons (ps_set (i := 2) scP.nd rfl (.inl rfl) (pe_ix ix_list (pv 0) pe_int (fun _ _ => rfl)))
      (pss_cons (ps_if (pt_cmpR op_gt (pe_callB call_len_seq (by rfl) T.len PySem.boot_len (pa_cons (pv 2) pa_nil)) pe_int (nomark _))
        (pss_cons (ps_set (i := 3) scP.nd rfl (.inl rfl) (pe_op op_mod (pe_callTy call_int1 (by rfl) T.int PyProof.Rows.boot_int (pa_cons (pe_ix ix_list (pv 2) pe_int (fun _ _ => rfl)) pa_nil)) (pv 1)))
        (pss_cons (ps_asg (pe_op op_fdiv (pe_callTy call_int1 (by rfl) T.int PyProof.Rows.boot_int (pa_cons (pe_ix ix_list (pv 2) pe_int (fun _ _ => rfl)) pa_nil)) (pv 1)) (pg_sub (pv 2) pe_int set_list))
        (pss_cons (ps_if (pt_cmpR op_eq (pe_ix ix_list (pv 2) pe_int (fun _ _ => rfl)) pe_int (nomark _))
          (pss_one (ps_expr (pe_bm PySem.F.plainAttrs_list PySem.F.slot_list_pop PySem.F.type_list_pop mt_popAt (pv 2) (pa_cons pe_int pa_nil)))) pss_nil)
        (pss_one (ps_ret (pv 3)))))) pss_nil)
      (pss_cons (ps_set (i := 4) scP.nd rfl (.inl rfl) (pe_op op_mod (pe_callTy call_int1 (by rfl) T.int PyProof.Rows.boot_int (pa_cons (pe_op op_mul (pe_op op_add (pe_ix ix_list (pv 0) pe_int (fun _ _ => rfl)) (pe_op op_mul pe_int (pe_ix ix_list (pv 0) pe_int (fun _ _ => rfl)))) pe_int) pa_nil)) pe_int))
      (pss_cons (ps_set (i := 4) scP.nd rfl (.inl rfl) (pe_op op_mod (pe_callTy call_int1 (by rfl) T.int PyProof.Rows.boot_int (pa_cons (pe_op op_mul (pv 4) (pe_op op_add (pe_op op_fdiv (pv 4) pe_int) pe_int)) pa_nil)) pe_int))
      (pss_cons (ps_set (i := 4) scP.nd rfl (.inl rfl) (pe_op op_mod (pe_callTy call_int1 (by rfl) T.int PyProof.Rows.boot_int (pa_cons (pe_op op_mul (pv 4) (pe_op op_add (pe_op op_fdiv (pv 4) pe_int) pe_int)) pa_nil)) pe_int))
      (pss_one (ps_ret (pe_op op_mod (pe_callTy call_int1 (by rfl) T.int PyProof.Rows.boot_int (pa_cons (pe_op op_fdiv (pv 4) pe_int) pa_nil)) (pv 1))))))))))), ?_⟩
    refine ⟨_, rfl, b, _, 3, al, rfl, rfl, .inl (.inl hb), rfl, _, rfl, ?_⟩
    rcases ha with rfl | ⟨z, rfl⟩
    · refine iteF ?_
      -- the count
      refine ⟨_, rfl, b, _, 1, _, rfl, rfl, .inl (.inl hb), rfl, _, _, rfl, rfl, _, rfl, b, _, 1, 1, rfl, rfl, hb, rfl, ?_⟩
      have hb2 : upd H b (.lst [.int s1, .int (c1 + 1), .ref g, .non]) b = some (.lst [.int s1, .int (c1 + 1), .ref g, .non]) := upd_same
      have hg2 : upd H b (.lst [.int s1, .int (c1 + 1), .ref g, .non]) g = some (.lst (gs.map V.int)) := by rw [upd_ne bg.symm]; exact hg
      have sb2 : SameB b g H (upd H b (.lst [.int s1, .int (c1 + 1), .ref g, .non])) := fun c o e n _ => by rw [upd_ne n]; exact e
      refine ⟨_, rfl, b, _, 2, _, rfl, rfl, .inl (.inl hb2), rfl, _, rfl, g, _, rfl, .inl (.inl (.inl hg2)), _, _, rfl, rfl, _, rfl, ite_ok (fun hz => ?_) fun hz => ?_⟩
      · cases gs with
        | nil => exact absurd hz (by show ¬ (0 : Int) < ((List.map V.int []).length : Int); simp)
        | cons n r =>
          refine ⟨_, rfl, g, _, 0, .int n, rfl, rfl, .inl (.inl hg2), at_of (j := 0) rfl rfl, .inl ⟨n, rfl, _, rfl, _, _, rfl, rfl, h0, ?_⟩⟩
          refine ⟨_, rfl, g, _, 0, .int n, rfl, rfl, .inl (.inl hg2), at_of (j := 0) rfl rfl, .inl ⟨n, rfl, _, rfl, _, _, rfl, rfl, ⟨h0, h1⟩, ?_⟩⟩
          refine ⟨_, rfl, g, _, 0, 0, rfl, rfl, hg2, (by unfold ixN; simp), ?_⟩
          have hb3 : ∀ o, upd (upd H b (.lst [.int s1, .int (c1 + 1), .ref g, .non])) g o b = some (.lst [.int s1, .int (c1 + 1), .ref g, .non]) := fun o => by rw [upd_ne bg]; exact hb2
          have sb3 : ∀ o, SameB b g H (upd (upd H b (.lst [.int s1, .int (c1 + 1), .ref g, .non])) g o) := fun o c u e n1 n2 => by rw [upd_ne n2, upd_ne n1]; exact e
          refine ⟨_, rfl, g, _, 0, .int (n / m), rfl, rfl, .inl (.inl upd_same), at_of (j := 0) rfl rfl, rfl, _, rfl, ite_ok (fun hd => ?_) fun hd => ?_⟩
          · refine ⟨_, rfl, .inl ⟨rfl, _, .inl (.inl upd_same)⟩, g, _, 0, 0, _, rfl, rfl, upd_same, by decide, by decide, (by unfold seqIndex?; simp), rfl, ?_⟩
            refine ⟨_, rfl, q _ _ (mod_lo h0) (mod_hi h0) ⟨⟨s1, c1 + 1, .non, ?_, .inl rfl⟩, r, ?_⟩ ?_⟩
            · rw [upd_upd]; exact hb3 _
            · exact upd_same
            · rw [upd_upd]; exact sb3 _
          · exact ⟨_, rfl, q _ _ (mod_lo h0) (mod_hi h0) ⟨⟨s1, c1 + 1, .non, hb3 _, .inl rfl⟩, (n / m) :: r, upd_same⟩ (sb3 _)⟩
      · -- the reckoned number
        refine ⟨_, rfl, b, _, 0, _, rfl, rfl, .inl (.inl hb2), rfl, _, rfl, b, _, 1, _, rfl, rfl, .inl (.inl hb2), rfl, _, _, rfl, rfl, .inl ⟨by decide, by decide⟩, _, _, rfl, rfl, _, _, rfl, rfl, .inr ⟨by decide, by decide⟩, .inl ⟨_, rfl, _, _, rfl, rfl, (by show (0 : Int) < 2147483647; decide), ?_⟩⟩
        generalize hx : ((s1 + 7919 * (c1 + 1)) * 48271) % 2147483647 = x
        have x0 : 0 ≤ x := by rw [← hx]; exact mod_lo (by decide)
        have x1 : x < 2147483647 := by rw [← hx]; exact mod_hi (by decide)
        refine ⟨_, rfl, _, rfl, _, _, rfl, rfl, ⟨by decide, by decide⟩, _, _, rfl, rfl, _, _, rfl, rfl, .inl ⟨by omega, by omega⟩, .inl ⟨_, rfl, _, _, rfl, rfl, (by show (0 : Int) < 2147483647; decide), ?_⟩⟩
        generalize hy : (x * (x / 1009 + 69621)) % 2147483647 = y
        have y0 : 0 ≤ y := by rw [← hy]; exact mod_lo (by decide)
        have y1 : y < 2147483647 := by rw [← hy]; exact mod_hi (by decide)
        refine ⟨_, rfl, _, rfl, _, _, rfl, rfl, ⟨by decide, by decide⟩, _, _, rfl, rfl, _, _, rfl, rfl, .inl ⟨by omega, by omega⟩, .inl ⟨_, rfl, _, _, rfl, rfl, (by show (0 : Int) < 2147483399; decide), ?_⟩⟩
        exact ⟨_, rfl, _, _, rfl, rfl, ⟨by decide, by decide⟩, .inl ⟨_, rfl, _, rfl, _, _, rfl, rfl, h0, q _ _ (mod_lo h0) (mod_hi h0) ⟨⟨s1, c1 + 1, .non, hb2, .inl rfl⟩, gs, hg2⟩ sb2⟩⟩
    · refine iteT ?_
      exact ⟨_, rfl, b, _, 3, _, rfl, rfl, .inl (.inl hb), rfl, .inl ⟨z, rfl, _, rfl, _, _, rfl, rfl, h0, q _ H (mod_lo h0) (mod_hi h0) B (SameB.refl _ _ _)⟩⟩
/-! ### a thing picked -/
def spSome : Sp := fun vs H Q _ => ∃ (b g t : Addr) (xs : List V), vs = [.ref b, .ref t] ∧ BagAt H b g ∧ H t = some (.lst xs) ∧ t ≠ b ∧ t ≠ g ∧ 0 < xs.length ∧ xs.length < 1073741824 ∧
  ∀ (x : V) (H' : Hp), x ∈ xs → BagAt H' b g → SameB b g H H' → Q x H'
abbrev scON : List Str := ["_law_bag_here", "_law_things"]
theorem scO : FnScope scON ["_law_bag_here", "_law_things"] (defScope sSome) := ⟨rfl, rfl, rfl, by decide +kernel, rfl, by decide +kernel, by decide +kernel⟩
theorem ok_some {f fP : Addr} {fd fdP : FuncData} (F : Fun K "_law_some" "_law_some" sSome f fd) (T : Blt mg) (FP : Fun K "_law_pick" "_law_pick" sPick fP fdP) (bP : Binds K fdP ["_law_bag_here", "_law_many"] []) (gP : mg "_law_pick" = some (.ref fP)) :
    FnOk P w K mg base CX0 2 f fd ["_law_bag_here", "_law_things"] spSome := by
  have GP : FnOk P w K mg base CX0 1 fP fdP ["_law_bag_here", "_law_many"] spPick := ok_pick FP T
  refine F.ok scO (fun vs H Q E h => ?_) (fun cdv A outer s H vs Q E hr h => ?_)
  · obtain ⟨b, g, t, xs, rfl, _⟩ := h
    rfl
  · obtain ⟨b, g, t, xs, rfl, B, ht, tb, tg, h0, h1, q⟩ := h
    refine ⟨_,
      (pss_one (ps_ret (pe_ix ix_list (pv 1) (pe_call GP hr (by rfl) gP FP.kp bP .nil pass0 (pa_cons (pv 0) (pa_cons (pe_callB call_len_seq (by rfl) T.len PySem.boot_len (pa_cons (pv 1) pa_nil)) pa_nil))) (fun _ _ => rfl)))), ?_⟩
    refine ⟨_, rfl, _, rfl, _, rfl, t, xs, rfl, .inl (.inl (.inl ht)), b, g, _, rfl, B, by omega, by omega, fun r H' r0 r1 B' sb => ?_⟩
    have hlt : r.toNat < xs.length := by omega
    exact ⟨t, xs, r, xs[r.toNat], rfl, rfl, .inl (.inl (sb t _ ht tb tg)), at_of (j := r.toNat) (by omega) (List.getElem?_eq_getElem hlt), q _ H' (List.getElem_mem hlt) B' sb⟩
end
end Rip

/-! Numbers, lots, masks: what the program's small functions tell of any object. -/
namespace Rip
open PySem PySem.Spec PyProof.Rows L2
/-! ### mathematics: masks -/
theorem or_xor_and (a : Nat) : ∀ b : Nat, (a ||| b) = (a ^^^ b) + (a &&& b) := by
  induction a using Nat.strongRecOn with
  | _ a ih =>
    intro b
    by_cases h : a = 0
    · subst h; simp
    · have := ih (a / 2) (by omega) (b / 2)
      have e1 : (a ||| b) / 2 = (a / 2 ||| b / 2) := Nat.or_div_two
      have e2 : (a ^^^ b) / 2 = (a / 2 ^^^ b / 2) := Nat.xor_div_two
      have e3 : (a &&& b) / 2 = (a / 2 &&& b / 2) := Nat.and_div_two
      have m1 := Nat.or_mod_two_eq_one (a := a) (b := b)
      have m2 := Nat.xor_mod_two_eq_one (a := a) (b := b)
      have m3 := Nat.and_mod_two_eq_one (a := a) (b := b)
      omega
/-- the place of the lowest bit -/
def lowI (m : Nat) : Nat := if h : m = 0 then 0 else if m % 2 = 1 then 0 else lowI (m / 2) + 1
termination_by m
theorem lowI_odd {m : Nat} (h : m % 2 = 1) : lowI m = 0 := by
  unfold lowI
  split
  · rfl
  · simp [h]
theorem lowI_even {m : Nat} (h0 : m ≠ 0) (h : m % 2 ≠ 1) : lowI m = lowI (m / 2) + 1 := by
  rw [lowI, dif_neg h0, if_neg h]
/-- m without its lowest bit -/
theorem low_and (m : Nat) : m ≠ 0 → (m &&& (m - 1)) + 2 ^ lowI m = m := by
  induction m using Nat.strongRecOn with
  | _ m ih =>
    intro h0
    have e3 : (m &&& (m - 1)) / 2 = (m / 2 &&& (m - 1) / 2) := Nat.and_div_two
    have m3 := Nat.and_mod_two_eq_one (a := m) (b := m - 1)
    by_cases h : m % 2 = 1
    · rw [lowI_odd h]
      have z : (m - 1) / 2 = m / 2 := by omega
      rw [z, Nat.and_self] at e3
      omega
    · have i := ih (m / 2) (by omega) (by omega)
      rw [lowI_even h0 h, Nat.pow_succ]
      have z : (m - 1) / 2 = m / 2 - 1 := by omega
      rw [z] at e3
      omega
theorem low_bit (m : Nat) : m ≠ 0 → m.testBit (lowI m) = true := by
  induction m using Nat.strongRecOn with
  | _ m ih =>
    intro h0
    by_cases h : m % 2 = 1
    · rw [lowI_odd h, Nat.testBit_zero]
      exact decide_eq_true h
    · rw [lowI_even h0 h, Nat.testBit_succ]
      exact ih (m / 2) (by omega) (by omega)
theorem low_least (m : Nat) : ∀ j, m.testBit j = true → lowI m ≤ j := by
  induction m using Nat.strongRecOn with
  | _ m ih =>
    intro j hj
    by_cases h0 : m = 0
    · subst h0; simp at hj
    by_cases h : m % 2 = 1
    · rw [lowI_odd h]; omega
    · cases j with
      | zero =>
        rw [Nat.testBit_zero] at hj
        exact absurd (of_decide_eq_true hj) h
      | succ j =>
        rw [lowI_even h0 h]
        rw [Nat.testBit_succ] at hj
        have := ih (m / 2) (by omega) j hj
        omega
theorem low_le {m : Nat} (h0 : m ≠ 0) : 2 ^ lowI m ≤ m := by
  have := low_and m h0
  omega
theorem two_pow_and {m i : Nat} (h : m.testBit i = true) : (m &&& 2 ^ i) = 2 ^ i := by
  apply Nat.eq_of_testBit_eq
  intro j
  rw [Nat.testBit_and, Nat.testBit_two_pow]
  by_cases e : i = j
  · subst e; simp [h]
  · simp [e]
theorem low_xor {m : Nat} (h0 : m ≠ 0) : (m ^^^ 2 ^ lowI m) = m - 2 ^ lowI m := by
  have h := low_bit m h0
  have a := two_pow_and h
  have o : (m ||| 2 ^ lowI m) = m := by
    apply Nat.eq_of_testBit_eq
    intro j
    rw [Nat.testBit_or, Nat.testBit_two_pow]
    by_cases e : lowI m = j
    · subst e; simp [h]
    · simp [e]
  have z := or_xor_and m (2 ^ lowI m)
  omega
/-- the lot that a mask tells -/
def lotOf (m : Nat) : List Nat := if h : m = 0 then [] else lowI m :: lotOf (m - 2 ^ lowI m)
termination_by m
decreasing_by
  have := Nat.two_pow_pos (lowI m)
  omega
theorem lotOf_zero : lotOf 0 = [] := by
  rw [lotOf, dif_pos rfl]
theorem lotOf_pos {m : Nat} (h : m ≠ 0) : lotOf m = lowI m :: lotOf (m - 2 ^ lowI m) := by
  rw [lotOf, dif_neg h]
theorem bit_less {m : Nat} (h0 : m ≠ 0) (j : Nat) : (m - 2 ^ lowI m).testBit j = (m.testBit j && decide (j ≠ lowI m)) := by
  rw [← low_xor h0, Nat.testBit_xor, Nat.testBit_two_pow]
  by_cases e : lowI m = j
  · subst e; simp [low_bit m h0]
  · have e' : j ≠ lowI m := fun z => e z.symm
    simp [e, e']
theorem mem_lotOf (m : Nat) : ∀ j, j ∈ lotOf m ↔ m.testBit j = true := by
  induction m using Nat.strongRecOn with
  | _ m ih =>
    intro j
    by_cases h0 : m = 0
    · subst h0; rw [lotOf_zero]; simp
    · have hp := Nat.two_pow_pos (lowI m)
      rw [lotOf_pos h0, List.mem_cons, ih _ (by omega), bit_less h0]
      by_cases e : j = lowI m
      · subst e; simp [low_bit m h0]
      · simp [e]
theorem asc_lotOf (m : Nat) : (lotOf m).Pairwise (· < ·) := by
  induction m using Nat.strongRecOn with
  | _ m ih =>
    by_cases h0 : m = 0
    · subst h0; rw [lotOf_zero]; exact .nil
    · have hp := Nat.two_pow_pos (lowI m)
      rw [lotOf_pos h0]
      refine .cons (fun j hj => ?_) (ih _ (by omega))
      rw [mem_lotOf, bit_less h0] at hj
      simp only [Bool.and_eq_true, decide_eq_true_eq] at hj
      have := low_least m j hj.1
      omega
/-- the mask of a lot -/
def maskOf (l : List Nat) : Nat := l.foldl (fun m i => m ||| 2 ^ i) 0
theorem mask_fold (l : List Nat) : ∀ (m j : Nat), (l.foldl (fun m i => m ||| 2 ^ i) m).testBit j = (m.testBit j || decide (j ∈ l)) := by
  induction l with
  | nil => intro m j; simp
  | cons i l ih =>
    intro m j
    rw [List.foldl_cons, ih, Nat.testBit_or, Nat.testBit_two_pow]
    by_cases e : i = j
    · subst e; simp
    · have e' : ¬ j = i := fun z => e z.symm
      simp [e, e']
theorem bit_maskOf (l : List Nat) (j : Nat) : (maskOf l).testBit j = decide (j ∈ l) := by
  unfold maskOf
  rw [mask_fold]
  simp
theorem asc_same : ∀ {l r : List Nat}, l.Pairwise (· < ·) → r.Pairwise (· < ·) → (∀ j, j ∈ l ↔ j ∈ r) → l = r
  | [], [], _, _, _ => rfl
  | [], y :: r, _, _, h => absurd ((h y).mpr List.mem_cons_self) (by simp)
  | x :: l, [], _, _, h => absurd ((h x).mp List.mem_cons_self) (by simp)
  | x :: l, y :: r, hl, hr, h => by
    have h1 := List.pairwise_cons.mp hl
    have h2 := List.pairwise_cons.mp hr
    have e : x = y := by
      have a := (h x).mp List.mem_cons_self
      have b := (h y).mpr List.mem_cons_self
      rcases List.mem_cons.mp a with a | a
      · exact a
      rcases List.mem_cons.mp b with b | b
      · exact b.symm
      have := h1.1 y b
      have := h2.1 x a
      omega
    subst e
    refine congrArg (x :: ·) (asc_same h1.2 h2.2 fun j => ⟨fun hj => ?_, fun hj => ?_⟩)
    · rcases List.mem_cons.mp ((h j).mp (List.mem_cons_of_mem _ hj)) with e | e
      · subst e; have := h1.1 j hj; omega
      · exact e
    · rcases List.mem_cons.mp ((h j).mpr (List.mem_cons_of_mem _ hj)) with e | e
      · subst e; have := h2.1 j hj; omega
      · exact e
theorem lot_mask {l : List Nat} (h : l.Pairwise (· < ·)) : lotOf (maskOf l) = l :=
  asc_same (asc_lotOf _) h fun j => by rw [mem_lotOf, bit_maskOf]; simp
theorem bor_nat (a b : Nat) : Builtin.bitOr (a : Int) (b : Int) = ((a ||| b : Nat) : Int) := by
  have h1 : decide (0 ≤ Builtin.bitNot (a : Int)) = false := by unfold Builtin.bitNot; simp; omega
  have h2 : decide (0 ≤ Builtin.bitNot (b : Int)) = false := by unfold Builtin.bitNot; simp; omega
  have h3 : ∀ c : Nat, (Builtin.bitNot (Builtin.bitNot (c : Int))).toNat = c := fun c => by unfold Builtin.bitNot; omega
  show Builtin.bitNot (match decide (0 ≤ Builtin.bitNot (a : Int)), decide (0 ≤ Builtin.bitNot (b : Int)) with
    | true, true => _ | true, false => _ | false, true => _ | false, false => _) = _
  rw [h1, h2, h3, h3]
  show Builtin.bitNot (Builtin.bitNot _) = _
  unfold Builtin.bitNot
  omega
theorem band_nat (a b : Nat) : Builtin.bitAnd (a : Int) (b : Int) = ((a &&& b : Nat) : Int) := by
  unfold Builtin.bitAnd
  rw [decide_eq_true (by omega : (0 : Int) ≤ a), decide_eq_true (by omega : (0 : Int) ≤ b)]
  rfl
theorem bxor_nat (a b : Nat) : Builtin.bitXor (a : Int) (b : Int) = ((a ^^^ b : Nat) : Int) := by
  unfold Builtin.bitXor
  rw [bor_nat, band_nat]
  have h := or_xor_and a b
  omega
theorem band_neg {m : Nat} (h0 : m ≠ 0) : Builtin.bitAnd (m : Int) (-(m : Int)) = ((2 ^ lowI m : Nat) : Int) := by
  unfold Builtin.bitAnd
  rw [decide_eq_true (by omega : (0 : Int) ≤ m), decide_eq_false (by omega : ¬ (0 : Int) ≤ -(m : Int))]
  have e : (Builtin.bitNot (-(m : Int))).toNat = m - 1 := by unfold Builtin.bitNot; omega
  show (m : Int) - (((m : Int).toNat &&& (Builtin.bitNot (-(m : Int))).toNat : Nat) : Int) = _
  rw [e, Int.toNat_natCast]
  have := low_and m h0
  omega
theorem bits_pow (i : Nat) : (Builtin.Int.intBits ((2 ^ i : Nat) : Int) : Int) - 1 = (i : Int) := by
  have h : (2 ^ i : Nat) ≠ 0 := by have := Nat.two_pow_pos i; omega
  have e : Builtin.Int.intBits ((2 ^ i : Nat) : Int) = i + 1 := by
    unfold Builtin.Int.intBits
    rw [if_neg (by simp only [beq_iff_eq]; omega), Int.natAbs_natCast, Nat.log2_two_pow]
  rw [e]
  omega
/-! ### what a thing's kind is -/
def isIB : V → Bool
  | .int _ => true | .bl _ => true
  | _ => false
def isBl : V → Bool
  | .bl _ => true
  | _ => false
/-- isinstance tells of v what it must: int, bool -/
structure Ob (K : PySem.W.Frag) (H : Hp) (v : V) : Prop where
  ty : ∃ t, TyX K H v t ∧ PySem.W.kitOne K t (.type "int") = some (isIB v) ∧ PySem.W.kitOne K t (.type "bool") = some (isBl v)
/-- .. and whether it is a tuple -/
structure ObT (K : PySem.W.Frag) (H : Hp) (v : V) (b : Bool) : Prop where
  ty : ∃ t, TyX K H v t ∧ PySem.W.kitOne K t (.type "tuple") = some b
theorem ob_int {K : PySem.W.Frag} {H : Hp} (i : Int) : Ob K H (.int i) := ⟨_, .base (.int i), kit_ty (show kitB "int" "int" = some true by decide +kernel), kit_ty (show kitB "int" "bool" = some false by decide +kernel)⟩
theorem ob_bl {K : PySem.W.Frag} {H : Hp} (x : Bool) : Ob K H (.bl x) := ⟨_, .base (.bl x), kit_ty (show kitB "bool" "int" = some true by decide +kernel), kit_ty (show kitB "bool" "bool" = some true by decide +kernel)⟩
theorem ob_non {K : PySem.W.Frag} {H : Hp} : Ob K H .non := ⟨_, .base .non, kit_ty (show kitB "NoneType" "int" = some false by decide +kernel), kit_ty (show kitB "NoneType" "bool" = some false by decide +kernel)⟩
theorem ob_str {K : PySem.W.Frag} {H : Hp} (x : Str) : Ob K H (.str x) := ⟨_, .base (.str x), kit_ty (show kitB "str" "int" = some false by decide +kernel), kit_ty (show kitB "str" "bool" = some false by decide +kernel)⟩
theorem ob_tup {K : PySem.W.Frag} {H : Hp} {a : Addr} {xs : List V} (h : H a = some (.tup xs)) : Ob K H (.ref a) := ⟨_, .base (.tup h), kit_ty (show kitB "tuple" "int" = some false by decide +kernel), kit_ty (show kitB "tuple" "bool" = some false by decide +kernel)⟩
theorem ob_lst {K : PySem.W.Frag} {H : Hp} {a : Addr} {xs : List V} (h : H a = some (.lst xs)) : Ob K H (.ref a) := ⟨_, .base (.lst h), kit_ty (show kitB "list" "int" = some false by decide +kernel), kit_ty (show kitB "list" "bool" = some false by decide +kernel)⟩
theorem ob_dct {K : PySem.W.Frag} {H : Hp} {a : Addr} {kvs : List (Key × V)} (h : H a = some (.dK kvs)) : Ob K H (.ref a) := ⟨_, .base (.dK h), kit_ty (show kitB "dict" "int" = some false by decide +kernel), kit_ty (show kitB "dict" "bool" = some false by decide +kernel)⟩
theorem obt_tup {K : PySem.W.Frag} {H : Hp} {a : Addr} {xs : List V} (h : H a = some (.tup xs)) : ObT K H (.ref a) true := ⟨_, .base (.tup h), kit_ty (by decide +kernel)⟩
/-- a number -/
def isNum : V → Bool
  | .int i => decide (0 ≤ i)
  | _ => false
def isBelow (n : Int) : V → Bool
  | .int i => decide (0 ≤ i ∧ i < n)
  | _ => false
section
variable {P : Program} {w : World} {K : PySem.W.Frag} {mg : Str → Option Value} {base : Heap}
abbrev s_isinteger : Stmt := top 6
abbrev s_isnum : Stmt := top 7
abbrev s_isbelow : Stmt := top 8
def spIsNum (K : PySem.W.Frag) : Sp := fun vs H Q _ => ∃ v, vs = [v] ∧ Ob K H v ∧ Q (.bl (isNum v)) H
abbrev scIsNumN : List Str := ["thing"]
theorem scIsNum : FnScope scIsNumN ["thing"] (defScope s_isnum) := ⟨rfl, rfl, rfl, by decide +kernel, rfl, by decide +kernel, by decide +kernel⟩
/-- is_number, and is_integer behind it -/
structure NumT (K : PySem.W.Frag) (mg : Str → Option Value) (f : Addr) (fd : FuncData) : Prop where
  F : Fun K "is_number" "is_number" s_isnum f fd
  I : ∃ fI fdI, Fun K "is_integer" "is_integer" s_isinteger fI fdI ∧ Binds K fdI ["thing"] [] ∧ mg "is_integer" = some (.ref fI)
theorem NumT.kp {f : Addr} {fd : FuncData} (h : NumT K mg f fd) : PySem.W.keepIn K (.ref f) = true := h.F.kp
def isIt : V → Bool
  | .int _ => true
  | _ => false
def spIsInteger (K : PySem.W.Frag) : Sp := fun vs H Q _ => ∃ v, vs = [v] ∧ Ob K H v ∧ Q (.bl (isIt v)) H
theorem scIsInteger : FnScope scIsNumN ["thing"] (defScope s_isinteger) := ⟨rfl, rfl, rfl, by decide +kernel, rfl, by decide +kernel, by decide +kernel⟩
theorem ok_isinteger {f : Addr} {fd : FuncData} (F : Fun K "is_integer" "is_integer" s_isinteger f fd) (B : Blt mg) : FnOk P w K mg base CX0 1 f fd ["thing"] (spIsInteger K) := by
  refine F.ok scIsInteger (fun vs H Q E h => ?_) (fun cdv A outer s H vs Q E hr h => ?_)
  · obtain ⟨v, rfl, _⟩ := h
    rfl
  · obtain ⟨v, rfl, ⟨t, ty, k1, k2⟩, q⟩ := h
    refine ⟨_, pss_one (ps_ret (pe_and (pe_callB call_isi (by rfl) B.isinstance PyProof.Rows.boot_isinstance (pa_cons (pv 0) (pa_cons (pe_bltn (v := .ty "int") (by rfl) B.int PyProof.Rows.boot_int rfl) pa_nil)))
      (pe_one (pe_not (pe_callB call_isi (by rfl) B.isinstance PyProof.Rows.boot_isinstance (pa_cons (pv 0) (pa_cons (pe_bltn (v := .ty "bool") (by rfl) B.bool PyProof.Rows.boot_bool rfl) pa_nil))))))), ?_⟩
    refine ⟨_, rfl, v, _, t, _, isIB v, rfl, .ty "int", ty, k1, _, rfl, ?_⟩
    cases v with
    | int i => exact iteT ⟨_, rfl, _, _, t, _, _, rfl, .ty "bool", ty, k2, _, rfl, q⟩
    | bl x => exact iteT ⟨_, rfl, _, _, t, _, _, rfl, .ty "bool", ty, k2, _, rfl, q⟩
    | non => exact iteF q
    | str x => exact iteF q
    | byt x => exact iteF q
    | flt x => exact iteF q
    | ref x => exact iteF q
    | ty x => exact iteF q
theorem ok_isnum {f : Addr} {fd : FuncData} (FN : NumT K mg f fd) (B : Blt mg) : FnOk P w K mg base CX0 2 f fd ["thing"] (spIsNum K) := by
  obtain ⟨F, fI, fdI, FI, bI, gI⟩ := FN
  have GI : FnOk P w K mg base CX0 1 fI fdI ["thing"] (spIsInteger K) := ok_isinteger FI B
  refine F.ok scIsNum (fun vs H Q E h => ?_) (fun cdv A outer s H vs Q E hr h => ?_)
  · obtain ⟨v, rfl, _⟩ := h
    rfl
  · obtain ⟨v, rfl, o, q⟩ := h
    refine ⟨_, pss_one (ps_ret (pe_and (pe_call GI hr (by rfl) gI FI.kp bI .nil pass0 (pa_cons (pv 0) pa_nil)) (pe_one (pe_cmpR op_ge (pv 0) pe_int (nomark _))))), ?_⟩
    refine ⟨_, rfl, v, rfl, o, _, rfl, ?_⟩
    cases v with
    | int i => exact iteT ⟨_, rfl, _, _, rfl, rfl, q⟩
    | bl x => exact iteF q
    | non => exact iteF q
    | str x => exact iteF q
    | byt x => exact iteF q
    | flt x => exact iteF q
    | ref x => exact iteF q
    | ty x => exact iteF q
def spIsBelow (K : PySem.W.Frag) : Sp := fun vs H Q _ => ∃ (n : Int) (v : V), vs = [.int n, v] ∧ Ob K H v ∧ Q (.bl (isBelow n v)) H
abbrev scIsBelowN : List Str := ["bound", "thing"]
theorem scIsBelow : FnScope scIsBelowN ["bound", "thing"] (defScope s_isbelow) := ⟨rfl, rfl, rfl, by decide +kernel, rfl, by decide +kernel, by decide +kernel⟩
theorem ok_isbelow {f fN : Addr} {fd fdN : FuncData} (F : Fun K "is_number_below" "is_number_below" s_isbelow f fd) (FN : NumT K mg fN fdN) (bN : Binds K fdN ["thing"] []) (gN : mg "is_number" = some (.ref fN)) (B : Blt mg) :
    FnOk P w K mg base CX0 3 f fd ["bound", "thing"] (spIsBelow K) := by
  have GN : FnOk P w K mg base CX0 2 fN fdN ["thing"] (spIsNum K) := ok_isnum FN B
  refine F.ok scIsBelow (fun vs H Q E h => ?_) (fun cdv A outer s H vs Q E hr h => ?_)
  · obtain ⟨n, v, rfl, _⟩ := h
    rfl
  · obtain ⟨n, v, rfl, o, q⟩ := h
    refine ⟨_, pss_one (ps_ret (pe_and (pe_call GN hr (by rfl) gN FN.kp bN .nil pass0 (pa_cons (pv 1) pa_nil)) (pe_one (pe_cmpR op_lt (pv 1) (pv 0) (nomark _))))), ?_⟩
    refine ⟨_, rfl, v, rfl, o, _, rfl, ?_⟩
    cases v with
    | int i =>
      refine ite_ok (fun h => ?_) fun h => ?_
      · refine ⟨_, rfl, _, rfl, _, _, rfl, rfl, ?_⟩
        have e : isBelow n (.int i) = decide (i < n) := by
          unfold isBelow
          simp [h]
        rw [e] at q
        exact q
      · have e : isBelow n (.int i) = false := by
          unfold isBelow
          simp [h]
        rw [e] at q
        exact q
    | bl x => exact iteF q
    | non => exact iteF q
    | str x => exact iteF q
    | byt x => exact iteF q
    | flt x => exact iteF q
    | ref x => exact iteF q
    | ty x => exact iteF q
end
end Rip

/-! Lots as masks: mask_of, lot_of, is_lot_below. -/
namespace Rip
open PySem PySem.Spec PyProof.Rows L2
theorem iteN {c : Prop} [Decidable c] {A B : Prop} (hc : ¬ c) (h : B) : if decide c = true then A else B := by
  rw [if_neg (by simpa using hc)]
  exact h
theorem iteY {c : Prop} [Decidable c] {A B : Prop} (hc : c) (h : A) : if decide c = true then A else B := by
  rw [if_pos (decide_eq_true hc)]
  exact h
theorem ite_b {b : Bool} {A B : Prop} (h1 : b = true → A) (h2 : b = false → B) : if b = true then A else B := by
  cases b with
  | true => rw [if_pos rfl]; exact h1 rfl
  | false => rw [if_neg Bool.false_ne_true]; exact h2 rfl
theorem st_eq {t : TS} {D : Ends} {σ σ' : L2.St} {H : Hp} (e : σ = σ') (h : t D σ' H) : t D σ H := by
  rw [e]
  exact h
/-- numbers as values -/
abbrev nV (i : Nat) : V := .int (i : Int)
/-- xs[i], read for xs[i] op= e -/
theorem get_list {X : Cx} : PGet X (fun o i H Q => ∃ (p : Addr) (xs : List V) (j : Nat) (v : V), o = .ref p ∧ i = nV j ∧ SqL X.K H p xs ∧ xs[j]? = some v ∧ Q v H) := by
  intro pins s σ H o i ov iv Q I ro ri h
  obtain ⟨p, xs, j, v, rfl, rfl, hq, hv, q⟩ := h
  cases ro
  obtain ⟨t, rfl⟩ := ri
  obtain ⟨its, r, pl, hz⟩ := I.list hq
  obtain ⟨u, eu, ru⟩ := r.get hv
  have hj : j < its.length := (List.getElem?_eq_some_iff.mp eu).1
  have hl := r.length
  have l63 := line63
  exact wpAny_getItem_list pl.isList (by omega) (by omega) (by simpa using eu) ⟨v, H, I, ru, q⟩
theorem pip_or {X : Cx} : PIp X .BitOr (rI0 fun i j => .int (Builtin.bitOr i j)) := iop_or
theorem pip_xor {X : Cx} : PIp X .BitXor (rI0 fun i j => .int (Builtin.bitXor i j)) := iop_xor
section
variable {P : Program} {w : World} {K : PySem.W.Frag} {mg : Str → Option Value} {base : Heap}
abbrev s_maskof : Stmt := top 10
abbrev s_lotof : Stmt := top 11
abbrev s_islot : Stmt := top 9
/-! ### mask_of -/
def spMaskOf (K : PySem.W.Frag) : Sp := fun vs H Q _ => ∃ (a : Addr) (l : List Nat), vs = [.ref a] ∧ SqT K H a (l.map nV) ∧ (∀ i ∈ l, i ≤ 1000000) ∧ Q (nV (maskOf l)) H
abbrev scMaskN : List Str := ["lot", "mask", "item"]
theorem scMask : FnScope scMaskN ["lot"] (defScope s_maskof) := ⟨rfl, rfl, rfl, by decide +kernel, rfl, by decide +kernel, by decide +kernel⟩
theorem mask_take {l : List Nat} {i j : Nat} (h : l[j]? = some i) : maskOf (l.take (j + 1)) = (maskOf (l.take j) ||| 2 ^ i) := by
  rw [List.take_add_one, h]
  unfold maskOf
  rw [List.foldl_append]
  rfl
theorem ok_maskof {f : Addr} {fd : FuncData} (F : Fun K "mask_of" "mask_of" s_maskof f fd) : FnOk P w K mg base CX0 1 f fd ["lot"] (spMaskOf K) := by
  refine F.ok scMask (fun vs H Q E h => ?_) (fun cdv A outer s H vs Q E hr h => ?_)
  · obtain ⟨a, l, rfl, _⟩ := h
    rfl
  · obtain ⟨a, l, rfl, hS, hl, q⟩ := h
    refine ⟨_,
      (pss_cons (ps_set (i := 1) scMask.nd rfl (.inl rfl) pe_int)
      (pss_cons (ps_for PassesOwn.never rfl (pi_tup (pv 0)) (pg_name (i := 2) scMask.nd rfl (.inl rfl))
        (pss_one (ps_aug (i := 1) scMask.nd rfl (.inl rfl) (pe_op op_shl pe_int (pv 2)) pip_or)))
      (pss_one (ps_ret (pv 1))))), ?_⟩
    refine ⟨_, rfl, a, rfl, ⟨_, hS⟩, for_it (walk_tup (K := K) (a := a) (xs := l.map nV)) (fun i σ H2 => H2 = H ∧ ∃ v, σ = [some (.ref a), some (nV (maskOf (l.take i))), v]) ⟨rfl, none, rfl⟩ (fun i σ H2 _ z => z.1 ▸ hS) ?_ ?_⟩
    · rintro i x σ H2 H' hi ⟨rfl, v, rfl⟩ ⟨rfl, ex⟩
      rw [List.getElem?_map] at ex
      cases e : l[i]? with
      | none => rw [e] at ex; cases ex
      | some n =>
        rw [e] at ex
        cases ex
        have hn := hl n (List.mem_of_getElem? e)
        refine ⟨_, rfl, _, rfl, _, _, rfl, rfl, ⟨by omega, by omega, by decide⟩, _, _, rfl, rfl, rfl, some (nV n), ?_⟩
        have e2 : (1 : Int) * 2 ^ ((n : Int)).toNat = ((2 ^ n : Nat) : Int) := by
          rw [Int.toNat_natCast]
          simp
        show [some (V.ref a), some (V.int (Builtin.bitOr ((maskOf (l.take i) : Nat) : Int) ((1 : Int) * 2 ^ ((n : Int)).toNat))), some (nV n)] = _
        rw [e2, bor_nat, ← mask_take e]
    · rintro σ H2 ⟨rfl, v, rfl⟩
      rw [List.length_map, List.take_length]
      exact ⟨_, rfl, q⟩
/-! ### lot_of -/
def spLotOf : Sp := fun vs H Q _ => ∃ (m : Nat), vs = [nV m] ∧ ∀ (p : Addr) (H' : Hp), Same H H' → H p = none → H' p = some (.tup ((lotOf m).map nV)) → Q (.ref p) H'
abbrev scLotN : List Str := ["mask", "items", "lowest"]
theorem scLot : FnScope scLotN ["mask"] (defScope s_lotof) := ⟨rfl, rfl, rfl, by decide +kernel, rfl, by decide +kernel, by decide +kernel⟩
theorem lotOf_len {m n : Nat} (h : m < 2 ^ n) : (lotOf m).length ≤ n := by
  have h1 := asc_lotOf m
  have h2 : ∀ j ∈ lotOf m, j < n := fun j hj => by
    rw [mem_lotOf] at hj
    by_cases z : j < n
    · exact z
    · rw [Nat.testBit_lt_two_pow (Nat.lt_of_lt_of_le h (Nat.pow_le_pow_right (by decide) (by omega)))] at hj
      cases hj
  have key : ∀ (l : List Nat) (k : Nat), l.Pairwise (· < ·) → (∀ j ∈ l, k ≤ j ∧ j < n) → l.length + k ≤ n ∨ l = [] := by
    intro l
    induction l with
    | nil => exact fun _ _ _ => .inr rfl
    | cons x l ih =>
      intro k hp hb
      have hx := hb x List.mem_cons_self
      have hp' := List.pairwise_cons.mp hp
      rcases ih (x + 1) hp'.2 (fun j hj => ⟨hp'.1 j hj, (hb j (List.mem_cons_of_mem _ hj)).2⟩) with z | z
      · left; rw [List.length_cons]; omega
      · left; rw [z]; simp only [List.length_cons, List.length_nil]; omega
  rcases key _ 0 h1 (fun j hj => ⟨Nat.zero_le _, h2 j hj⟩) with z | z
  · omega
  · rw [z]; simp
theorem ok_lotof {f : Addr} {fd : FuncData} (F : Fun K "lot_of" "lot_of" s_lotof f fd) (B : Blt mg) : FnOk P w K mg base CX0 1 f fd ["mask"] (fun vs H Q E => spLotOf vs H Q E ∧ ∃ m, vs = [nV m] ∧ m < 2 ^ 900000) := by
  refine F.ok scLot (fun vs H Q E h => ?_) (fun cdv A outer s H vs Q E hr h => ?_)
  · obtain ⟨⟨m, rfl, _⟩, _⟩ := h
    rfl
  · obtain ⟨⟨m, rfl, q⟩, m', em, hm⟩ := h
    have em' : m' = m := by
      injection em with e _
      injection e with e
      omega
    subst em'
    have hlen := lotOf_len hm
    refine ⟨_,
      (pss_cons (ps_set (i := 1) scLot.nd rfl (.inl rfl) (pe_lst pa_nil))
      (pss_cons (ps_while PassesOwn.never (pt_truth (pv 0) (fun _ => rfl))
        (pss_cons (ps_set (i := 2) scLot.nd rfl (.inl rfl) (pe_op op_and (pv 0) (pe_un un_neg (pv 0))))
        (pss_cons (ps_expr (pe_bm PySem.F.plainAttrs_list PySem.F.slot_list_append PySem.F.type_list_append mt_append (pv 1) (pa_cons (pe_op op_sub (pe_bits (pv 2)) pe_int) pa_nil)))
        (pss_one (ps_aug (i := 0) scLot.nd rfl (.inl rfl) (pv 2) pip_xor)))))
      (pss_one (ps_ret (pe_tupleOf (by rfl) B.tuple (pv 1)))))), ?_⟩
    refine ⟨Nat.zero_le _, fun l nl => ?_⟩
    dsimp only [gName, tSeq]
    refine while_by (fun σ H2 => ∃ (k : Nat) (got : List Nat) (v : Option V), σ = [some (nV k), some (.ref l), v] ∧ got ++ lotOf k = lotOf m' ∧ Same H H2 ∧ H2 l = some (.lst (got.map nV))) (fun σ _ => match σ with | some (.int k) :: _ => k.toNat | _ => 0)
      ⟨m', [], none, rfl, rfl, same_upd nl, upd_same⟩ ?_ ?_
    · rintro σ H2 ⟨k, got, v, rfl, hg, s2, el⟩
      refine ⟨_, rfl, _, rfl, ite_b (fun hk => ?_) fun hk => ?_⟩
      · have k0 : k ≠ 0 := fun z => by subst z; simp at hk
        have hgl : got.length < 900000 := by
          have z := congrArg List.length hg
          rw [List.length_append, lotOf_pos k0, List.length_cons] at z
          omega
        refine ⟨_, rfl, _, rfl, _, rfl, _, _, rfl, rfl, ?_⟩
        dsimp only [gName]
        rw [band_neg k0]
        refine ⟨_, rfl, .inl ⟨rfl, _, .inl (.inl el)⟩, _, rfl, _, rfl, _, _, rfl, rfl, l, _, _, rfl, rfl, el, by rw [List.length_map, sizeLine_eq]; omega, ?_⟩
        dsimp only
        rw [bits_pow]
        refine ⟨_, rfl, _, rfl, _, _, rfl, rfl, ?_⟩
        dsimp only
        rw [bxor_nat, low_xor k0]
        have hp := Nat.two_pow_pos (lowI k)
        have hle := low_le k0
        refine ⟨⟨k - 2 ^ lowI k, got ++ [lowI k], _, rfl, ?_, same_put s2 nl, ?_⟩, ?_⟩
        · rw [List.append_assoc]
          rw [lotOf_pos k0] at hg
          exact hg
        · rw [upd_same, List.map_append]
          rfl
        · show ((k - 2 ^ lowI k : Nat) : Int).toNat < ((k : Nat) : Int).toNat
          omega
      · have k0 : k = 0 := by
          simp only [bne_eq_false_iff_eq] at hk
          omega
        subst k0
        rw [lotOf_zero, List.append_nil] at hg
        subst hg
        refine ⟨_, rfl, .inl ⟨l, _, rfl, .inl (.inl el), fun p np => ?_⟩⟩
        exact q p _ (same_put s2 (s2.free np)) (s2.free np) upd_same
    · rintro σ H2 Q1 Q2 hq ⟨v, e, k, t, z⟩
      exact ⟨v, e, k, t, hq _ _ z⟩
end
end Rip

/-! far_masks: what each change needs, however far, or a ring. -/
namespace Rip
open PySem PySem.Spec PyProof.Rows L2
/-! ### mathematics: what is needed however far; one change behind another -/
inductive Far (ns : List (Nat × Nat)) : Nat → Nat → Prop
  | one {c o : Nat} (h : (c, o) ∈ ns) : Far ns c o
  | step {c m o : Nat} (h : (c, m) ∈ ns) (t : Far ns m o) : Far ns c o
theorem Far.trans {ns : List (Nat × Nat)} {a b c : Nat} (x : Far ns a b) (y : Far ns b c) : Far ns a c := by
  induction x with
  | one h => exact .step h y
  | step h _ ih => exact .step h (ih y)
/-- the changes of D, the last one first, each behind all that it needs -/
inductive Topo (ns : List (Nat × Nat)) : List Nat → Prop
  | nil : Topo ns []
  | cons {x : Nat} {D : List Nat} (t : Topo ns D) (h : x ∉ D) (k : ∀ o, (x, o) ∈ ns → o ∈ D) : Topo ns (x :: D)
theorem Topo.closed {ns : List (Nat × Nat)} {D : List Nat} (t : Topo ns D) : ∀ {c o : Nat}, c ∈ D → (c, o) ∈ ns → o ∈ D := by
  induction t with
  | nil => intro c o h; cases h
  | @cons x D _ _ k ih =>
    intro c o h e
    rcases List.mem_cons.mp h with z | z
    · subst z; exact List.mem_cons_of_mem _ (k o e)
    · exact List.mem_cons_of_mem _ (ih z e)
theorem Topo.far {ns : List (Nat × Nat)} {D : List Nat} (t : Topo ns D) {c o : Nat} (f : Far ns c o) : c ∈ D → o ∈ D := by
  induction f with
  | one h => exact fun z => t.closed z h
  | step h _ ih => exact fun z => ih (t.closed z h)
theorem Topo.acyclic {ns : List (Nat × Nat)} {D : List Nat} (t : Topo ns D) : ∀ {c : Nat}, c ∈ D → ¬ Far ns c c := by
  induction t with
  | nil => intro c h; cases h
  | @cons x D t hx k ih =>
    intro c h f
    rcases List.mem_cons.mp h with z | z
    · subst z
      have : c ∈ D := by
        cases f with
        | one e => exact k c e
        | step e f => exact t.far f (k _ e)
      exact hx this
    · exact ih z f
theorem ring_of {ns : List (Nat × Nat)} : ∀ (S : List Nat), S ≠ [] → (∀ c ∈ S, ∃ o ∈ S, Far ns c o) → ∃ c ∈ S, Far ns c c
  | [], h, _ => absurd rfl h
  | x :: S, _, h => by
    by_cases hx : Far ns x x
    · exact ⟨x, List.mem_cons_self, hx⟩
    · obtain ⟨y, hy, fy⟩ := h x List.mem_cons_self
      have yS : y ∈ S := by
        rcases List.mem_cons.mp hy with e | e
        · subst e; exact absurd fy hx
        · exact e
      obtain ⟨c, hc, fc⟩ := ring_of S (List.ne_nil_of_mem yS) fun c hc => by
        obtain ⟨o, ho, fo⟩ := h c (List.mem_cons_of_mem _ hc)
        rcases List.mem_cons.mp ho with e | e
        · subst e; exact ⟨y, yS, fo.trans fy⟩
        · exact ⟨o, e, fo⟩
      exact ⟨c, List.mem_cons_of_mem _ hc, fc⟩
/-- how many needs of c are not done -/
def cnt (ns : List (Nat × Nat)) (P : Nat × Nat → Bool) (c : Nat) : Nat := (ns.filter fun p => decide (p.1 = c) && !P p).length
theorem cnt_congr {ns : List (Nat × Nat)} {P P' : Nat × Nat → Bool} (h : ∀ p ∈ ns, P p = P' p) (c : Nat) : cnt ns P c = cnt ns P' c := by
  unfold cnt
  congr 1
  exact List.filter_congr fun p hp => by rw [h p hp]
theorem cnt_zero {ns : List (Nat × Nat)} {P : Nat × Nat → Bool} {c : Nat} : cnt ns P c = 0 ↔ ∀ o, (c, o) ∈ ns → P (c, o) = true := by
  unfold cnt
  rw [List.length_eq_zero_iff, List.filter_eq_nil_iff]
  constructor
  · intro h o ho
    have := h (c, o) ho
    simpa using this
  · intro h p hp
    obtain ⟨a, o⟩ := p
    by_cases e : a = c
    · subst e; simp [h o hp]
    · simp [e]
theorem cnt_other {ns : List (Nat × Nat)} {P : Nat × Nat → Bool} {c x d : Nat} (hd : d ≠ c) : cnt ns (fun p => P p || decide (p = (c, x))) d = cnt ns P d := by
  unfold cnt
  congr 1
  refine List.filter_congr fun p _ => ?_
  by_cases e : p.1 = d
  · have : p ≠ (c, x) := fun z => hd (by rw [← e, z])
    simp [this]
  · simp [e]
theorem cnt_step {P : Nat × Nat → Bool} {c x : Nat} (hP : P (c, x) = false) : ∀ {ns : List (Nat × Nat)}, ns.Nodup → (c, x) ∈ ns → cnt ns P c = cnt ns (fun p => P p || decide (p = (c, x))) c + 1
  | [], _, h => by cases h
  | p :: ns, hn, h => by
    obtain ⟨h1, h2⟩ := List.nodup_cons.mp hn
    by_cases e : p = (c, x)
    · subst e
      have z : cnt ns (fun p => P p || decide (p = (c, x))) c = cnt ns P c := cnt_congr (fun q hq => by
        have : q ≠ (c, x) := fun y => h1 (y ▸ hq)
        simp [this]) c
      unfold cnt at *
      rw [List.filter_cons_of_pos (by simp [hP]), List.filter_cons_of_neg (by simp), z, List.length_cons]
    · have hm : (c, x) ∈ ns := by
        rcases List.mem_cons.mp h with z | z
        · exact absurd z.symm e
        · exact z
      have ih := cnt_step hP h2 hm
      unfold cnt at *
      by_cases k : (decide (p.1 = c) && !P p) = true
      · rw [List.filter_cons, List.filter_cons, if_pos k, if_pos (by simpa [e] using k), List.length_cons, List.length_cons, ih]
      · rw [List.filter_cons, List.filter_cons, if_neg k, if_neg (by simpa [e] using k), ih]
/-- m tells what of the done needs of c there is, however far -/
def FarOk (ns : List (Nat × Nat)) (P : Nat × Nat → Bool) (c m : Nat) : Prop := ∀ o, m.testBit o = true ↔ ∃ x, (c, x) ∈ ns ∧ P (c, x) = true ∧ (x = o ∨ Far ns x o)
theorem FarOk.congr {ns : List (Nat × Nat)} {P P' : Nat × Nat → Bool} {c m : Nat} (f : FarOk ns P c m) (h : ∀ p ∈ ns, P p = P' p) : FarOk ns P' c m := fun o => by
  rw [f o]
  exact ⟨fun ⟨x, h1, h2, h3⟩ => ⟨x, h1, (h _ h1) ▸ h2, h3⟩, fun ⟨x, h1, h2, h3⟩ => ⟨x, h1, (h _ h1).symm ▸ h2, h3⟩⟩
theorem FarOk.full {ns : List (Nat × Nat)} {P : Nat × Nat → Bool} {c m : Nat} (f : FarOk ns P c m) (h : cnt ns P c = 0) (o : Nat) : m.testBit o = true ↔ Far ns c o := by
  rw [f o]
  constructor
  · rintro ⟨x, h1, _, rfl | h3⟩
    · exact .one h1
    · exact .step h1 h3
  · intro z
    cases z with
    | one e => exact ⟨o, e, cnt_zero.mp h _ e, .inl rfl⟩
    | @step _ y _ e t => exact ⟨y, e, cnt_zero.mp h _ e, .inr t⟩
theorem FarOk.put {ns : List (Nat × Nat)} {P : Nat × Nat → Bool} {c x m mo : Nat} (f : FarOk ns P c m) (hm : (c, x) ∈ ns) (ho : ∀ o, mo.testBit o = true ↔ Far ns x o) : FarOk ns (fun p => P p || decide (p = (c, x))) c (m ||| (mo ||| 2 ^ x)) := fun o => by
  rw [Nat.testBit_or, Nat.testBit_or, Nat.testBit_two_pow, Bool.or_eq_true, Bool.or_eq_true, f o, ho o, decide_eq_true_eq]
  constructor
  · rintro (⟨y, h1, h2, h3⟩ | h | h)
    · exact ⟨y, h1, by simp [h2], h3⟩
    · exact ⟨x, hm, by simp, .inr h⟩
    · exact ⟨x, hm, by simp, .inl h⟩
  · rintro ⟨y, h1, h2, h3⟩
    simp only [Bool.or_eq_true, decide_eq_true_eq, Prod.mk.injEq, true_and] at h2
    rcases h2 with h2 | h2
    · exact .inl ⟨y, h1, h2, h3⟩
    · subst h2
      rcases h3 with h3 | h3
      · exact .inr (.inr h3)
      · exact .inr (.inl h3)
theorem FarOk.other {ns : List (Nat × Nat)} {P : Nat × Nat → Bool} {c x d m : Nat} (f : FarOk ns P d m) (hd : d ≠ c) : FarOk ns (fun p => P p || decide (p = (c, x))) d m := fun o => by
  rw [f o]
  have e : ∀ y, (d, y) ≠ (c, x) := fun y z => hd (Prod.mk.inj z).1
  exact ⟨fun ⟨y, h1, h2, h3⟩ => ⟨y, h1, by simp [h2], h3⟩, fun ⟨y, h1, h2, h3⟩ => ⟨y, h1, by simpa [e y] using h2, h3⟩⟩
/-- the state of the work: V the changes taken out, R those that are ready, l what is left, f what is known -/
structure Wk (ns : List (Nat × Nat)) (many : Nat) (P : Nat × Nat → Bool) (V R l f : List Nat) : Prop where
  ll : l.length = many
  lf : f.length = many
  left : ∀ c, c < many → l[c]? = some (cnt ns P c)
  far : ∀ c m, f[c]? = some m → FarOk ns P c m
  rn : R.Nodup
  rm : ∀ c, c ∈ R ↔ c < many ∧ c ∉ V ∧ cnt ns P c = 0
  vz : ∀ d ∈ V, d < many ∧ cnt ns P d = 0
theorem Wk.congr {ns : List (Nat × Nat)} {many : Nat} {P P' : Nat × Nat → Bool} {V R l f : List Nat} (W : Wk ns many P V R l f) (h : ∀ p ∈ ns, P p = P' p) : Wk ns many P' V R l f :=
  ⟨W.ll, W.lf, fun c hc => by rw [W.left c hc, cnt_congr h], fun c m e => (W.far c m e).congr h, W.rn, fun c => by rw [W.rm c, cnt_congr h], fun d hd => by rw [← cnt_congr h]; exact W.vz d hd⟩
theorem Wk.step {ns : List (Nat × Nat)} {many : Nat} {P : Nat × Nat → Bool} {V R l f : List Nat} (W : Wk ns many P V R l f) (hn : ns.Nodup) {c x lc mc mo : Nat} (hm : (c, x) ∈ ns) (hP : P (c, x) = false) (hc : c < many) (hx : x ∈ V)
    (el : l[c]? = some lc) (ec : f[c]? = some mc) (eo : f[x]? = some mo) :
    c ≠ x ∧ 1 ≤ lc ∧ Wk ns many (fun p => P p || decide (p = (c, x))) V (if lc - 1 = 0 then R ++ [c] else R) (l.set c (lc - 1)) (f.set c (mc ||| (mo ||| 2 ^ x))) := by
  have s := cnt_step hP hn hm
  have e1 : lc = cnt ns P c := Option.some.inj (el.symm.trans (W.left c hc))
  have hcV : c ∉ V := fun z => by
    have := (W.vz c z).2
    omega
  have hcx : c ≠ x := fun z => hcV (z ▸ hx)
  have hc0 : c ∉ R := fun z => by
    have := ((W.rm c).mp z).2.2
    omega
  have ex : lc - 1 = cnt ns (fun p => P p || decide (p = (c, x))) c := by omega
  refine ⟨hcx, by omega, ?_⟩
  refine ⟨by rw [List.length_set]; exact W.ll, by rw [List.length_set]; exact W.lf, fun d hd => ?_, fun d m e => ?_, ?_, fun d => ?_, fun d hd => ?_⟩
  · by_cases h : d = c
    · subst h
      rw [List.getElem?_set_self (by rw [W.ll]; exact hd), ex]
    · rw [List.getElem?_set_ne (fun z => h z.symm), W.left d hd, cnt_other h]
  · by_cases h : d = c
    · subst h
      rw [List.getElem?_set_self (by rw [W.lf]; exact hc)] at e
      cases e
      exact (W.far d mc ec).put hm fun o => (W.far x mo eo).full (W.vz x hx).2 o
    · rw [List.getElem?_set_ne (fun z => h z.symm)] at e
      exact (W.far d m e).other h
  · split
    · refine List.nodup_append.mpr ⟨W.rn, by simp, fun a ha b hb => ?_⟩
      rw [List.mem_singleton] at hb
      subst hb
      exact fun z => hc0 (z ▸ ha)
    · exact W.rn
  · by_cases h : d = c
    · subst h
      split
      · rename_i z
        simp [hc, hcV, ← ex, z]
      · rename_i z
        constructor
        · intro y; exact absurd y hc0
        · rintro ⟨_, _, y⟩; omega
    · rw [cnt_other h]
      split
      · rw [List.mem_append, List.mem_singleton, W.rm d]
        simp [h]
      · exact W.rm d
  · have hdc : d ≠ c := fun z => hcV (z ▸ hd)
    rw [cnt_other hdc]
    exact W.vz d hd
/-- the changes that need o, as the needs stand -/
def usersOf (ns : List (Nat × Nat)) (o : Nat) : List Nat := (ns.filter fun p => decide (p.2 = o)).map (·.1)
theorem mem_usersOf {ns : List (Nat × Nat)} {o c : Nat} : c ∈ usersOf ns o ↔ (c, o) ∈ ns := by
  unfold usersOf
  simp only [List.mem_map, List.mem_filter, decide_eq_true_eq]
  constructor
  · rintro ⟨⟨a, b⟩, ⟨h, rfl⟩, rfl⟩
    exact h
  · intro h
    exact ⟨(c, o), ⟨h, rfl⟩, rfl⟩
theorem nodup_usersOf {o : Nat} : ∀ {ns : List (Nat × Nat)}, ns.Nodup → (usersOf ns o).Nodup
  | [], _ => .nil
  | p :: ns, h => by
    obtain ⟨h1, h2⟩ := List.nodup_cons.mp h
    have ih := nodup_usersOf (o := o) h2
    by_cases e : p.2 = o
    · have z : usersOf (p :: ns) o = p.1 :: usersOf ns o := by
        unfold usersOf
        rw [List.filter_cons_of_pos (by simpa using e)]
        rfl
      rw [z]
      refine List.nodup_cons.mpr ⟨fun y => ?_, ih⟩
      rw [mem_usersOf] at y
      exact h1 (by rw [← e] at y; exact y)
    · have z : usersOf (p :: ns) o = usersOf ns o := by
        unfold usersOf
        rw [List.filter_cons_of_neg (by simpa using e)]
      rw [z]
      exact ih
/-- what is told: a mask for each change, or there is a ring -/
structure FarsOf (many : Nat) (ns : List (Nat × Nat)) (f : List Nat) : Prop where
  len : f.length = many
  bits : ∀ c m, f[c]? = some m → ∀ o, m.testBit o = true ↔ Far ns c o
  no : ∀ c, c < many → ¬ Far ns c c
theorem Wk.take {ns : List (Nat × Nat)} {many : Nat} {D R l f : List Nat} {x : Nat} (W : Wk ns many (fun p => decide (p.2 ∈ D)) D (R ++ [x]) l f) (T : Topo ns D) :
    Wk ns many (fun p => decide (p.2 ∈ D)) (x :: D) R l f ∧ Topo ns (x :: D) ∧ x < many := by
  obtain ⟨h1, h2, h3⟩ := (W.rm x).mp (by simp)
  have hn := List.nodup_append.mp W.rn
  refine ⟨⟨W.ll, W.lf, W.left, W.far, hn.1, fun c => ?_, fun d hd => ?_⟩, .cons T h2 fun o ho => ?_, h1⟩
  · have := W.rm c
    constructor
    · intro z
      obtain ⟨a, b, e⟩ := (W.rm c).mp (List.mem_append_left _ z)
      refine ⟨a, fun y => ?_, e⟩
      rcases List.mem_cons.mp y with y | y
      · subst y; exact hn.2.2 c z c (by simp) rfl
      · exact b y
    · rintro ⟨a, b, e⟩
      have z := (W.rm c).mpr ⟨a, fun y => b (List.mem_cons_of_mem _ y), e⟩
      rcases List.mem_append.mp z with z | z
      · exact z
      · rw [List.mem_singleton] at z
        exact absurd (List.mem_cons.mpr (.inl z)) b
  · rcases List.mem_cons.mp hd with z | z
    · subst z; exact ⟨h1, h3⟩
    · exact W.vz d z
  · have := cnt_zero.mp h3 o ho
    simpa using this
theorem topo_nodup {ns : List (Nat × Nat)} {D : List Nat} (T : Topo ns D) : D.Nodup := by
  induction T with
  | nil => exact .nil
  | cons _ h _ ih => exact List.nodup_cons.mpr ⟨h, ih⟩
theorem nodup_below : ∀ {n : Nat} {D : List Nat}, D.Nodup → (∀ d ∈ D, d < n) → D.length ≤ n
  | 0, D, _, b => by
    cases D with
    | nil => exact Nat.le_refl _
    | cons d D => exact absurd (b d List.mem_cons_self) (Nat.not_lt_zero _)
  | n + 1, D, h, b => by
    by_cases z : n ∈ D
    · have := nodup_below (n := n) (h.erase n) fun d hd => by
        have y := (h.mem_erase_iff).mp hd
        have := b d y.2
        omega
      rw [List.length_erase_of_mem z] at this
      omega
    · have := nodup_below (n := n) h fun d hd => by
        have := b d hd
        have : d ≠ n := fun e => z (e ▸ hd)
        omega
      omega
theorem full_below {n : Nat} {D : List Nat} (h : D.Nodup) (b : ∀ d ∈ D, d < n) (hl : D.length = n) : ∀ c, c < n → c ∈ D := by
  intro c hc
  by_cases z : c ∈ D
  · exact z
  · have := nodup_below (n := n) (D := c :: D) (List.nodup_cons.mpr ⟨z, h⟩) fun d hd => by
      rcases List.mem_cons.mp hd with e | e
      · subst e; exact hc
      · exact b d e
    rw [List.length_cons] at this
    omega
theorem range_sub : ∀ {n : Nat} {D : List Nat}, (∀ c, c < n → c ∈ D) → n ≤ D.length
  | 0, _, _ => Nat.zero_le _
  | n + 1, D, h => by
    have hn := h n (Nat.lt_succ_self n)
    have := range_sub (n := n) (D := D.erase n) fun c hc => (List.mem_erase_of_ne (by omega)).mpr (h c (by omega))
    rw [List.length_erase_of_mem hn] at this
    have := List.length_pos_of_mem hn
    omega
/-- nothing is ready any more -/
theorem Wk.done {ns : List (Nat × Nat)} {many : Nat} {D l f : List Nat} (W : Wk ns many (fun p => decide (p.2 ∈ D)) D [] l f) (T : Topo ns D) (hb : ∀ p ∈ ns, p.1 < many ∧ p.2 < many) :
    (D.length = many → FarsOf many ns f) ∧ (D.length < many → ∃ c, c < many ∧ Far ns c c) ∧ D.length ≤ many := by
  have hn := topo_nodup T
  have hd : ∀ d ∈ D, d < many := fun d z => (W.vz d z).1
  refine ⟨fun hl => ?_, fun hl => ?_, nodup_below hn hd⟩
  · have full := full_below hn hd hl
    refine ⟨W.lf, fun c m e => ?_, fun c hc => T.acyclic (full c hc)⟩
    have hc : c < many := by
      have := (List.getElem?_eq_some_iff.mp e).1
      rw [W.lf] at this
      exact this
    exact (W.far c m e).full (W.vz c (full c hc)).2
  · have hex : ∃ c, c < many ∧ c ∉ D := by
      by_cases z : ∃ c, c < many ∧ c ∉ D
      · exact z
      · exfalso
        have all : ∀ c, c < many → c ∈ D := fun c hc => Classical.not_not.mp fun y => z ⟨c, hc, y⟩
        have := range_sub all
        omega
    obtain ⟨c0, h0, n0⟩ := hex
    obtain ⟨c, hc, fc⟩ := ring_of (ns := ns) ((List.range many).filter fun c => decide (c ∉ D)) (List.ne_nil_of_mem (a := c0) (by simp [h0, n0])) fun c hc => by
      simp only [List.mem_filter, List.mem_range, decide_eq_true_eq] at hc
      have nz : cnt ns (fun p => decide (p.2 ∈ D)) c ≠ 0 := fun z => by
        have := (W.rm c).mpr ⟨hc.1, hc.2, z⟩
        cases this
      have : ∃ o, (c, o) ∈ ns ∧ o ∉ D := by
        by_cases z : ∃ o, (c, o) ∈ ns ∧ o ∉ D
        · exact z
        · exact absurd (cnt_zero.mpr fun o ho => decide_eq_true (Classical.not_not.mp fun y => z ⟨o, ho, y⟩)) nz
      obtain ⟨o, ho, hno⟩ := this
      exact ⟨o, by simp [(hb _ ho).2, hno], .one ho⟩
    simp only [List.mem_filter, List.mem_range] at hc
    exact ⟨c, hc.1, fc⟩
theorem cnt_none (c : Nat) {P : Nat × Nat → Bool} : cnt [] P c = 0 := rfl
theorem take_one {α : Type} {l : List α} {i : Nat} {x : α} (h : l[i]? = some x) : l.take (i + 1) = l.take i ++ [x] := by
  rw [List.take_add_one, h]
  rfl
theorem cnt_snoc (ns : List (Nat × Nat)) (p : Nat × Nat) (c : Nat) : cnt (ns ++ [p]) (fun _ => false) c = cnt ns (fun _ => false) c + if p.1 = c then 1 else 0 := by
  unfold cnt
  rw [List.filter_append, List.length_append]
  congr 1
  by_cases h : p.1 = c
  · rw [List.filter_cons_of_pos (by simpa using h), if_pos h]
    rfl
  · rw [List.filter_cons_of_neg (by simpa using h), if_neg h]
    rfl
theorem users_snoc (ns : List (Nat × Nat)) (p : Nat × Nat) (o : Nat) : usersOf (ns ++ [p]) o = usersOf ns o ++ if p.2 = o then [p.1] else [] := by
  unfold usersOf
  rw [List.filter_append, List.map_append]
  congr 1
  by_cases h : p.2 = o
  · rw [List.filter_cons_of_pos (by simpa using h), if_pos h]
    rfl
  · rw [List.filter_cons_of_neg (by simpa using h), if_neg h]
    rfl
theorem ixN_nat {n j : Nat} (h : j < n) : ixN n (j : Int) = some j := by
  unfold ixN
  rw [if_pos (by omega), if_pos (by omega)]
  simp
theorem map_get {l : List Nat} {i n : Nat} (h : l[i]? = some n) : (l.map nV)[i]? = some (nV n) := by
  rw [List.getElem?_map, h]
  rfl
theorem map_set (l : List Nat) (i n : Nat) : (l.map nV).set i (nV n) = (l.set i n).map nV := by
  rw [List.map_set]
/-- at a the tuple of the needs, each a pair -/
def PairsAt (K : PySem.W.Frag) (H : Hp) (a : Addr) (ns : List (Nat × Nat)) : Prop := ∃ rs : List Addr, SqT K H a (rs.map V.ref) ∧ rs.length = ns.length ∧
  ∀ (i : Nat) (r : Addr) (p : Nat × Nat), rs[i]? = some r → ns[i]? = some p → SqT K H r [nV p.1, nV p.2]
theorem same_seqT {K : PySem.W.Frag} {H H' : Hp} {a : Addr} {xs : List V} (e : Same H H') (h : SqT K H a xs) : SqT K H' a xs := by
  unfold SqT at *
  rcases h with (h | ⟨o, h⟩) | h
  · exact .inl (.inl (e _ _ h))
  · exact .inl (.inr ⟨o, e _ _ h⟩)
  · exact .inr h
section
variable {P : Program} {w : World} {K : PySem.W.Frag} {mg : Str → Option Value} {base : Heap}
abbrev s_far : Stmt := top 12
def spFar (K : PySem.W.Frag) : Sp := fun vs H Q _ => ∃ (n : Nat) (a : Addr) (ns : List (Nat × Nat)), vs = [nV n, .ref a] ∧ PairsAt K H a ns ∧ ns.Nodup ∧ (∀ p ∈ ns, p.1 < n ∧ p.2 < n) ∧ n ≤ 100000 ∧ ns.length ≤ 1000000 ∧
  (∀ (p : Addr) (H' : Hp) (f : List Nat), Same H H' → H p = none → H' p = some (.tup (f.map nV)) → FarsOf n ns f → Q (.ref p) H') ∧
  (∀ H', Same H H' → (∃ c, c < n ∧ Far ns c c) → Q .non H')
abbrev scFmN : List Str := ["many", "needs", "left", "users", "_", "change", "other", "far", "ready", "done"]
theorem scFm : FnScope scFmN ["many", "needs"] (defScope s_far) := ⟨rfl, rfl, rfl, by decide +kernel, rfl, by decide +kernel, by decide +kernel⟩
/-- the lists of the work stand: left at L, users at U (each at its own place of us), far at F, ready at R -/
structure Hq (ns : List (Nat × Nat)) (L U F R : Addr) (us : List Addr) (l f r : List Nat) (H : Hp) : Prop where
  eL : H L = some (.lst (l.map nV))
  eU : H U = some (.lst (us.map V.ref))
  eF : H F = some (.lst (f.map nV))
  eR : H R = some (.lst (r.map nV))
  eu : ∀ (o : Nat) (u : Addr), us[o]? = some u → H u = some (.lst ((usersOf ns o).map nV))
/-- they stand apart -/
structure Ap (L U F R : Addr) (us : List Addr) : Prop where
  LU : L ≠ U
  LF : L ≠ F
  LR : L ≠ R
  FU : F ≠ U
  RU : R ≠ U
  FR : F ≠ R
  Lu : ∀ u ∈ us, u ≠ L
  Fu : ∀ u ∈ us, u ≠ F
  Ru : ∀ u ∈ us, u ≠ R
theorem Hq.putL {ns : List (Nat × Nat)} {L U F R : Addr} {us : List Addr} {l f r l' : List Nat} {H : Hp} (q : Hq ns L U F R us l f r H) (A : Ap L U F R us) : Hq ns L U F R us l' f r (upd H L (.lst (l'.map nV))) :=
  ⟨upd_same, by rw [upd_ne A.LU.symm]; exact q.eU, by rw [upd_ne A.LF.symm]; exact q.eF, by rw [upd_ne A.LR.symm]; exact q.eR, fun o u e => by rw [upd_ne (A.Lu u (List.mem_of_getElem? e))]; exact q.eu o u e⟩
theorem Hq.putF {ns : List (Nat × Nat)} {L U F R : Addr} {us : List Addr} {l f r f' : List Nat} {H : Hp} (q : Hq ns L U F R us l f r H) (A : Ap L U F R us) : Hq ns L U F R us l f' r (upd H F (.lst (f'.map nV))) :=
  ⟨by rw [upd_ne A.LF]; exact q.eL, by rw [upd_ne A.FU.symm]; exact q.eU, upd_same, by rw [upd_ne A.FR.symm]; exact q.eR, fun o u e => by rw [upd_ne (A.Fu u (List.mem_of_getElem? e))]; exact q.eu o u e⟩
theorem Hq.putR {ns : List (Nat × Nat)} {L U F R : Addr} {us : List Addr} {l f r r' : List Nat} {H : Hp} (q : Hq ns L U F R us l f r H) (A : Ap L U F R us) : Hq ns L U F R us l f r' (upd H R (.lst (r'.map nV))) :=
  ⟨by rw [upd_ne A.LR]; exact q.eL, by rw [upd_ne A.RU.symm]; exact q.eU, by rw [upd_ne A.FR]; exact q.eF, upd_same, fun o u e => by rw [upd_ne (A.Ru u (List.mem_of_getElem? e))]; exact q.eu o u e⟩
theorem zeros (n : Nat) : (List.replicate ((n : Int)).toNat [V.int 0]).flatten = (List.replicate n 0).map nV := by
  rw [Int.toNat_natCast]
  induction n with
  | zero => rfl
  | succ n ih =>
    rw [List.replicate_succ, List.flatten_cons, ih, List.replicate_succ]
    rfl
theorem ok_far {f : Addr} {fd : FuncData} (Fn : Fun K "far_masks" "far_masks" s_far f fd) (B : Blt mg) : FnOk P w K mg base CX0 1 f fd ["many", "needs"] (spFar K) := by
  refine Fn.ok scFm (fun vs H Q E h => ?_) (fun cdv A outer s H vs Q E hr h => ?_)
  · obtain ⟨n, a, ns, rfl, _⟩ := h
    rfl
  · obtain ⟨n, a, ns, rfl, PA, hnd, hb, hn, hl, q1, q2⟩ := h
    obtain ⟨rs, hS, hrl, hrs⟩ := id PA
    have z1000 : 16777216 ≤ sizeLine := by rw [sizeLine_eq]; exact Nat.le_refl _
    refine ⟨_,
      (pss_cons (ps_set (i := 2) scFm.nd rfl (.inr rfl) (pe_op op_rep (pe_lst (pa_cons pe_int pa_nil)) (pv 0)))
      (pss_cons (ps_setLc (i := 3) (own := [("_", 4)]) (g := (gName 4)) (tt := tYes) rfl scFm.nd rfl rfl (sw_true rfl rfl rfl (by decide +kernel)) (pi_range1 (by rfl) B.range (pa_cons (pv 0) pa_nil)) (blkOk_by (own := [("_", 4)]) (N := scFmN) (sc := defScope s_far) (by decide +kernel)) (fun _ _ _ _ _ => (pg_name (i := 4) scFm.nd rfl (.inl rfl))) (fun _ _ _ _ _ => pts_nil) (fun _ _ _ _ _ => (pe_lst pa_nil)))
      (pss_cons (ps_for PassesOwn.never rfl (pi_tup (pv 1)) (pg_tup rfl (pgs_cons (pg_name (i := 5) scFm.nd rfl (.inl rfl)) (pgs_cons (pg_name (i := 6) scFm.nd rfl (.inl rfl)) pgs_nil)))
        (pss_cons (ps_augS (pv 2) (pv 5) get_list pe_int ip_add set_list)
        (pss_one (ps_expr (pe_bm PySem.F.plainAttrs_list PySem.F.slot_list_append PySem.F.type_list_append mt_append (pe_ix ix_list (pv 3) (pv 6) (fun _ _ => rfl)) (pa_cons (pv 5) pa_nil))))))
      (pss_cons (ps_set (i := 7) scFm.nd rfl (.inl rfl) (pe_op op_rep (pe_lst (pa_cons pe_int pa_nil)) (pv 0)))
      (pss_cons (ps_setLc (i := 8) (own := [("change", 5)]) (g := (gName 5)) (tt := tTest (tOp rEq (tOp (rIxL K) (tVar 2) (tVar 5)) (tC (.int 0)))) rfl scFm.nd rfl rfl (sw_true rfl rfl rfl (by decide +kernel)) (pi_range1 (by rfl) B.range (pa_cons (pv 0) pa_nil)) (blkOk_by (own := [("change", 5)]) (N := scFmN) (sc := defScope s_far) (by decide +kernel)) (fun _ _ _ _ _ => (pg_name (i := 5) scFm.nd rfl (.inl rfl))) (fun _ _ _ _ _ => (pts_one (pt_cmpR op_eq (pe_ix ix_list (pv 2) (pv 5) (fun _ _ => rfl)) pe_int (nomark _)))) (fun _ _ _ _ _ => (pv 5)))
      (pss_cons (ps_set (i := 9) scFm.nd rfl (.inl rfl) pe_int)
      (pss_cons (ps_while PassesOwn.never (pt_truth (pv 8) (fun _ => rfl))
        (pss_cons (ps_set (i := 6) scFm.nd rfl (.inl rfl) (pe_bm0 PySem.F.plainAttrs_list PySem.F.slot_list_pop PySem.F.type_list_pop mt_pop (pv 8)))
        (pss_cons (ps_aug (i := 9) scFm.nd rfl (.inl rfl) pe_int ip_add)
        (pss_one (ps_for PassesOwn.never rfl (pi_list (pe_ix ix_list (pv 3) (pv 6) (fun _ _ => rfl))) (pg_name (i := 5) scFm.nd rfl (.inl rfl))
          (pss_cons (ps_augS (pv 7) (pv 5) get_list (pe_op op_or (pe_ix ix_list (pv 7) (pv 6) (fun _ _ => rfl)) (pe_op op_shl pe_int (pv 6))) pip_or set_list)
          (pss_cons (ps_augS (pv 2) (pv 5) get_list pe_int ip_sub set_list)
          (pss_one (ps_if (pt_cmpR op_eq (pe_ix ix_list (pv 2) (pv 5) (fun _ _ => rfl)) pe_int (nomark _))
            (pss_one (ps_expr (pe_bm PySem.F.plainAttrs_list PySem.F.slot_list_append PySem.F.type_list_append mt_append (pv 8) (pa_cons (pv 5) pa_nil)))) pss_nil)))))))))
      (pss_cons (ps_if (pt_cmpR op_lt (pv 9) (pv 0) (nomark _))
        (pss_one (ps_ret pe_non)) pss_nil)
      (pss_one (ps_ret (pe_tupleOf (by rfl) B.tuple (pv 7)))))))))))), ?_⟩
    -- left = [0] * many
    refine ⟨by show 1 ≤ sizeLine; omega, fun t0 nt0 => ⟨_, rfl, t0, _, _, rfl, rfl, upd_same, by omega, by omega, by show 1 * ((n : Int)).toNat ≤ sizeLine; omega, fun L nL => ?_⟩⟩
    have nL0 : H L = none := (same_upd nt0).free nL
    have s1 : Same H (upd (upd H t0 (.lst [.int 0])) L (.lst (List.replicate ((n : Int)).toNat [.int 0]).flatten)) := same_put (same_upd nt0) nL0
    have eL1 : upd (upd H t0 (.lst [.int 0])) L (.lst (List.replicate ((n : Int)).toNat [.int 0]).flatten) L = some (.lst ((List.replicate n 0).map nV)) := by rw [upd_same, zeros]
    generalize upd (upd H t0 (.lst [.int 0])) L (.lst (List.replicate ((n : Int)).toNat [.int 0]).flatten) = H1 at s1 eL1 ⊢
    dsimp only [gName]
    refine st_eq (σ' := [some (nV n), some (.ref a), some (.ref L), none, none, none, none, none, none, none]) rfl ?_
    -- users
    refine ⟨_, rfl, _, rfl, by omega, by omega, fun U nU => ?_⟩
    have nU0 : H U = none := s1.free nU
    have LU : L ≠ U := ne_of_none eL1 nU
    rw [show ((n : Int)).toNat = n from Int.toNat_natCast n]
    refine lc_range (n := n) (fun i H2 => Same H H2 ∧ H2 L = some (.lst ((List.replicate n 0).map nV)) ∧ ∃ us : List Addr, H2 U = some (.lst (us.map V.ref)) ∧ us.length = i ∧ us.Nodup ∧ (∀ u ∈ us, H2 u = some (.lst []) ∧ H u = none ∧ u ≠ L ∧ u ≠ U))
      ⟨same_put s1 nU0, by rw [upd_ne LU]; exact eL1, [], upd_same, rfl, .nil, fun u hu => nomatch hu⟩ ?_ ?_
    · rintro i H2 hi ⟨s2, e2, us, eU, hul, hud, hu⟩
      refine ⟨rfl, Nat.zero_le _, fun u nu => ?_⟩
      have nu0 : H u = none := s2.free nu
      have uL : L ≠ u := ne_of_none e2 nu
      have uU : U ≠ u := ne_of_none eU nu
      have uu : ∀ v ∈ us, v ≠ u := fun v hv => ne_of_none (hu v hv).1 nu
      refine ⟨_, by rw [upd_ne uU]; exact eU, by rw [List.length_map]; omega, same_put (same_put s2 nu0) nU0, by rw [upd_ne LU, upd_ne uL]; exact e2, us ++ [u], by rw [upd_same, List.map_append]; rfl, by rw [List.length_append, hul]; rfl, ?_, fun v hv => ?_⟩
      · exact List.nodup_append.mpr ⟨hud, by simp, fun x hx y hy => by rw [List.mem_singleton.mp hy]; exact uu x hx⟩
      · rcases List.mem_append.mp hv with h | h
        · obtain ⟨h1, h2, h3, h4⟩ := hu v h
          exact ⟨by rw [upd_ne h4, upd_ne (uu v h)]; exact h1, h2, h3, h4⟩
        · rw [List.mem_singleton.mp h]
          exact ⟨by rw [upd_ne uU.symm, upd_same], nu0, uL.symm, uU.symm⟩
    rintro H2 ⟨s2, e2, us, eU, hul, hud, hu⟩
    dsimp only [gName]
    refine st_eq (σ' := [some (nV n), some (.ref a), some (.ref L), some (.ref U), none, none, none, none, none, none]) rfl ?_
    -- the needs, one behind another
    refine ⟨_, rfl, a, rfl, ⟨_, same_seqT s2 hS⟩, for_it (walk_tup (K := K) (a := a) (xs := rs.map V.ref)) (fun i σ H3 => ∃ (l : List Nat) (x5 x6 : Option V), σ = [some (nV n), some (.ref a), some (.ref L), some (.ref U), none, x5, x6, none, none, none] ∧
        Same H H3 ∧ H3 L = some (.lst (l.map nV)) ∧ l.length = n ∧ (∀ c, c < n → l[c]? = some (cnt (ns.take i) (fun _ => false) c)) ∧ H3 U = some (.lst (us.map V.ref)) ∧ ∀ (o : Nat) (u : Addr), us[o]? = some u → H3 u = some (.lst ((usersOf (ns.take i) o).map nV)))
      ⟨List.replicate n 0, none, none, rfl, s2, e2, by simp, fun c hc => by rw [List.getElem?_replicate, if_pos hc]; rfl, eU, fun o u e => (hu u (List.mem_of_getElem? e)).1⟩ (fun i σ H3 _ ⟨_, _, _, _, z, _⟩ => same_seqT z hS) ?_ ?_⟩
    · rintro i x σ H3 H4 hi ⟨l, x5, x6, rfl, s3, eL, hll, hlc, eU3, hu3⟩ ⟨rfl, ex⟩
      rw [List.length_map, hrl] at hi
      have ei : ns[i]? = some ns[i] := List.getElem?_eq_getElem hi
      generalize ns[i] = p at ei
      obtain ⟨c, o⟩ := p
      rw [List.getElem?_map] at ex
      cases er : rs[i]? with
      | none => rw [er] at ex; cases ex
      | some r =>
        rw [er] at ex
        cases ex
        have hr2 := same_seqT s3 (hrs i r (c, o) er ei)
        obtain ⟨hc, ho⟩ := hb (c, o) (List.mem_of_getElem? ei)
        refine ⟨r, _, rfl, hr2, rfl, _, _, rfl, _, [], rfl, rfl, ?_⟩
        refine st_eq (σ' := [some (nV n), some (.ref a), some (.ref L), some (.ref U), none, some (nV c), some (nV o), none, none, none]) rfl ?_
        have hlc' := hlc c hc
        refine ⟨_, rfl, _, rfl, L, _, c, _, rfl, rfl, .inl (.inl eL), map_get hlc', _, _, rfl, rfl, L, _, _, c, rfl, rfl, eL, by rw [List.length_map, hll]; exact ixN_nat hc, ?_⟩
        have esum : V.int (((cnt (ns.take i) (fun _ => false) c : Nat) : Int) + 1) = nV (cnt (ns.take i) (fun _ => false) c + 1) := rfl
        have hol : o < us.length := by rw [hul]; exact ho
        have hou : us[o]? = some us[o] := List.getElem?_eq_getElem hol
        generalize us[o] = u at hou
        have huL : u ≠ L := (hu u (List.mem_of_getElem? hou)).2.2.1
        have huU : u ≠ U := (hu u (List.mem_of_getElem? hou)).2.2.2
        have hu0 : H u = none := (hu u (List.mem_of_getElem? hou)).2.1
        have tk := take_one ei
        have len1 : (usersOf (ns.take i) o).length ≤ 1000000 := by
          unfold usersOf
          rw [List.length_map]
          refine Nat.le_trans (List.length_filter_le _ _) ?_
          rw [List.length_take]
          omega
        refine ⟨_, rfl, _, rfl, U, _, _, .ref u, rfl, rfl, .inl (.inl (by rw [upd_ne LU.symm]; exact eU3)), at_of (j := o) rfl (by rw [List.getElem?_map, hou]; rfl), .inl ⟨rfl, _, .inl (.inl (by rw [upd_ne huL]; exact hu3 o u hou))⟩, _, rfl, u, _, _, rfl, rfl, by rw [upd_ne huL]; exact hu3 o u hou, by rw [List.length_map]; omega, ?_⟩
        refine ⟨l.set c (cnt (ns.take i) (fun _ => false) c + 1), _, _, rfl, same_put (same_put s3 nL0) hu0, ?_, by rw [List.length_set]; exact hll, fun d hd => ?_, ?_, fun o' u' e' => ?_⟩
        · rw [upd_ne huL.symm, upd_same, ← map_set]
          rfl
        · rw [tk, cnt_snoc]
          by_cases h : c = d
          · subst h
            rw [List.getElem?_set_self (by omega), if_pos rfl]
          · rw [List.getElem?_set_ne h, hlc d hd, if_neg h]
            rfl
        · rw [upd_ne huU.symm, upd_ne LU.symm]
          exact eU3
        · rw [tk, users_snoc]
          by_cases h : o = o'
          · subst h
            have : u = u' := Option.some.inj (hou.symm.trans e')
            subst this
            rw [upd_same, if_pos rfl, List.map_append]
            rfl
          · have huu : u' ≠ u := fun z => h (by
              subst z
              exact nd_ix hud hou e')
            rw [upd_ne huu, upd_ne ((hu u' (List.mem_of_getElem? e')).2.2.1), hu3 o' u' e', if_neg h, List.append_nil]
    rintro σ H3 ⟨l, x5, x6, rfl, s3, eL, hll, hlc, eU3, hu3⟩
    rw [List.length_map, hrl, List.take_length] at hlc hu3
    -- far = [0] * many
    dsimp only [tSeq]
    refine ⟨by show 1 ≤ sizeLine; omega, fun t1 nt1 => ⟨_, rfl, t1, _, _, rfl, rfl, upd_same, by omega, by omega, by show 1 * ((n : Int)).toNat ≤ sizeLine; omega, fun F nF => ?_⟩⟩
    have nF3 : H3 F = none := (same_upd nt1).free nF
    have s4 : Same H3 (upd (upd H3 t1 (.lst [.int 0])) F (.lst (List.replicate ((n : Int)).toNat [.int 0]).flatten)) := same_put (same_upd nt1) nF3
    have eF1 : upd (upd H3 t1 (.lst [.int 0])) F (.lst (List.replicate ((n : Int)).toNat [.int 0]).flatten) F = some (.lst ((List.replicate n 0).map nV)) := by rw [upd_same, zeros]
    have nF0 : H F = none := s3.free nF3
    have LF : L ≠ F := ne_of_none eL nF3
    have UF : U ≠ F := ne_of_none eU3 nF3
    have uF : ∀ u ∈ us, u ≠ F := fun u h => by
      obtain ⟨o, ho, e⟩ := List.mem_iff_getElem.mp h
      exact ne_of_none (hu3 o u (by rw [List.getElem?_eq_getElem ho, e])) nF3
    generalize upd (upd H3 t1 (.lst [.int 0])) F (.lst (List.replicate ((n : Int)).toNat [.int 0]).flatten) = H5 at s4 eF1 ⊢
    dsimp only [gName]
    refine st_eq (t := tSeq _ _) (σ' := [some (nV n), some (.ref a), some (.ref L), some (.ref U), none, x5, x6, some (.ref F), none, none]) rfl ?_
    -- what is ready
    refine ⟨_, rfl, _, rfl, by omega, by omega, fun R nR => ?_⟩
    rw [show ((n : Int)).toNat = n from Int.toNat_natCast n]
    have s5 := s3.trans s4
    have nR0 : H R = none := s5.free nR
    have LR : L ≠ R := ne_of_none (s4 _ _ eL) nR
    have UR : U ≠ R := ne_of_none (s4 _ _ eU3) nR
    have FR : F ≠ R := ne_of_none eF1 nR
    have uR : ∀ u ∈ us, u ≠ R := fun u h => by
      obtain ⟨o, ho, e⟩ := List.mem_iff_getElem.mp h
      exact ne_of_none (s4 _ _ (hu3 o u (by rw [List.getElem?_eq_getElem ho, e]))) nR
    have A : Ap L U F R us := ⟨LU, LF, LR, UF.symm, UR.symm, FR, fun u h => (hu u h).2.2.1, uF, uR⟩
    refine lc_range (n := n) (fun i H6 => Same H5 H6 ∧ ∃ r : List Nat, H6 R = some (.lst (r.map nV)) ∧ r.length ≤ i ∧ r.Nodup ∧ ∀ c, c ∈ r ↔ c < i ∧ cnt ns (fun _ => false) c = 0)
      ⟨same_upd nR, [], upd_same, Nat.zero_le _, .nil, fun c => by simp⟩ ?_ ?_
    · rintro i H6 hi ⟨s6, r, eR, hrl2, hrd, hrm⟩
      have hli := hlc i hi
      have e0 : (0 : Int) + (i : Int) = (i : Int) := by omega
      rw [e0]
      refine ⟨rfl, _, rfl, _, rfl, L, _, _, nV (cnt ns (fun _ => false) i), rfl, rfl, .inl (.inl (s6 _ _ (s4 _ _ eL))), at_of (j := i) rfl (map_get hli), rfl, _, rfl, ite_ok (fun hz => ?_) fun hz => ?_⟩
      · have hz' : cnt ns (fun _ => false) i = 0 := by
          injection hz with z
          omega
        refine ⟨_, rfl, _, eR, by rw [List.length_map]; omega, same_put s6 nR, r ++ [i], by rw [upd_same, List.map_append]; rfl, by rw [List.length_append]; exact Nat.succ_le_succ hrl2, ?_, fun c => ?_⟩
        · exact List.nodup_append.mpr ⟨hrd, by simp, fun x hx y hy => by
            rw [List.mem_singleton.mp hy]
            have := ((hrm x).mp hx).1
            omega⟩
        · rw [List.mem_append, List.mem_singleton, hrm c]
          constructor
          · rintro (⟨h1, h2⟩ | rfl)
            · exact ⟨by omega, h2⟩
            · exact ⟨by omega, hz'⟩
          · rintro ⟨h1, h2⟩
            by_cases h : c = i
            · exact .inr h
            · exact .inl ⟨by omega, h2⟩
      · have hz' : cnt ns (fun _ => false) i ≠ 0 := fun z => hz (by rw [z]; rfl)
        refine ⟨s6, r, eR, by omega, hrd, fun c => ?_⟩
        rw [hrm c]
        constructor
        · rintro ⟨h1, h2⟩; exact ⟨by omega, h2⟩
        · rintro ⟨h1, h2⟩
          have : c ≠ i := fun z => hz' (z ▸ h2)
          exact ⟨by omega, h2⟩
    rintro H6 ⟨s6, r, eR, hrl2, hrd, hrm⟩
    have Q0 : Hq ns L U F R us l (List.replicate n 0) r H6 := ⟨s6 _ _ (s4 _ _ eL), s6 _ _ (s4 _ _ eU3), s6 _ _ eF1, eR, fun o u e => s6 _ _ (s4 _ _ (hu3 o u e))⟩
    have W0 : Wk ns n (fun p => decide (p.2 ∈ ([] : List Nat))) [] r l (List.replicate n 0) := by
      have hP : ∀ p ∈ ns, (fun _ => false) p = decide (p.2 ∈ ([] : List Nat)) := fun p _ => by simp
      refine Wk.congr ⟨hll, by simp, hlc, fun c m e => ?_, hrd, fun c => ?_, fun d hd => nomatch hd⟩ hP
      · rw [List.getElem?_replicate] at e
        split at e
        · cases e
          intro o
          simp
        · cases e
      · rw [hrm c]
        simp
    have s7 := s5.trans s6
    dsimp only [gName]
    refine st_eq (t := tSeq _ _) (σ' := [some (nV n), some (.ref a), some (.ref L), some (.ref U), none, x5, x6, some (.ref F), some (.ref R), none]) rfl ?_
    dsimp only [tSeq, tAsg, tC, gName]
    refine st_eq (t := tWhile _ _) (σ' := [some (nV n), some (.ref a), some (.ref L), some (.ref U), none, x5, x6, some (.ref F), some (.ref R), some (nV 0)]) rfl ?_
    clear s6 s4 eR eF1 hrm hlc hu3 eL eU3 s3 hll
    refine while_by (fun σ H7 => ∃ (D r l f : List Nat) (x5 x6 : Option V), σ = [some (nV n), some (.ref a), some (.ref L), some (.ref U), none, x5, x6, some (.ref F), some (.ref R), some (nV D.length)] ∧ Same H H7 ∧ Hq ns L U F R us l f r H7 ∧ Wk ns n (fun p => decide (p.2 ∈ D)) D r l f ∧ Topo ns D)
      (fun (σ : L2.St) (_ : Hp) => match σ with | [_, _, _, _, _, _, _, _, _, some (V.int k)] => n - k.toNat | _ => 0)
      ⟨[], r, l, List.replicate n 0, x5, x6, rfl, s7, Q0, W0, .nil⟩ ?_ ?_
    · rintro σ H7 ⟨D, r, l, f, x5, x6, rfl, s8, Q8, W8, T8⟩
      refine ⟨_, rfl, _, .inl ⟨_, .inl (.inl Q8.eR), rfl⟩, ite_b (fun hk => ?_) fun hk => ?_⟩
      · obtain ⟨r', x, rfl⟩ : ∃ r' x, r = r' ++ [x] := by
          rcases List.eq_nil_or_concat r with h | ⟨r', x, h⟩
          · subst h; simp at hk
          · exact ⟨r', x, by rw [h, List.concat_eq_append]⟩
        obtain ⟨W9, T9, hx⟩ := W8.take T8
        have hdl : D.length + 1 ≤ n := nodup_below (topo_nodup T9) fun d hd => (W9.vz d hd).1
        have hxD : x ∉ D := by
          cases T9 with
          | cons _ h _ => exact h
        refine ⟨_, rfl, .inl ⟨rfl, _, .inl (.inl Q8.eR)⟩, R, _, nV x, rfl, rfl, Q8.eR, by simp, ?_⟩
        have ed : ((r' ++ [x]).map nV).dropLast = r'.map nV := by simp
        rw [ed]
        have Q9 : Hq ns L U F R us l f r' (upd H7 R (.lst (r'.map nV))) := Q8.putR A
        have s9 : Same H (upd H7 R (.lst (r'.map nV))) := same_put s8 nR0
        generalize upd H7 R (.lst (r'.map nV)) = H8 at Q9 s9 ⊢
        dsimp only [gName]
        refine st_eq (t := tSeq _ _) (σ' := [some (nV n), some (.ref a), some (.ref L), some (.ref U), none, x5, some (nV x), some (.ref F), some (.ref R), some (nV D.length)]) rfl ?_
        refine ⟨_, rfl, _, _, rfl, rfl, ?_⟩
        dsimp only
        refine st_eq (t := tFor _ _ _) (σ' := [some (nV n), some (.ref a), some (.ref L), some (.ref U), none, x5, some (nV x), some (.ref F), some (.ref R), some (nV (D.length + 1))]) rfl ?_
        have hxu : x < us.length := by omega
        have hou : us[x]? = some us[x] := List.getElem?_eq_getElem hxu
        generalize us[x] = u at hou
        have pow1 : (1 : Int) * 2 ^ ((x : Int)).toNat = ((2 ^ x : Nat) : Int) := by
          rw [Int.toNat_natCast]
          simp
        refine ⟨_, rfl, _, rfl, U, _, _, .ref u, rfl, rfl, .inl (.inl Q9.eU), at_of (j := x) rfl (by rw [List.getElem?_map, hou]; rfl), u, rfl, ⟨_, .inl (.inl (Q9.eu x u hou))⟩, for_list (K := K) (a := u) (xs := (usersOf ns x).map nV)
          (fun j σ H9 => ∃ (r l f : List Nat) (x5 : Option V), σ = [some (nV n), some (.ref a), some (.ref L), some (.ref U), none, x5, some (nV x), some (.ref F), some (.ref R), some (nV (D.length + 1))] ∧ Same H H9 ∧ Hq ns L U F R us l f r H9 ∧
            Wk ns n (fun p => decide (p.2 ∈ D) || (decide (p.2 = x) && decide (p.1 ∈ (usersOf ns x).take j))) (x :: D) r l f)
          ⟨r', l, f, x5, rfl, s9, Q9, W9.congr fun p _ => by simp⟩ (fun j σ H9 _ ⟨_, _, _, _, _, _, q, _⟩ => .inl (.inl (q.eu x u hou))) ?_ ?_⟩
        · rintro j y σ H9 hj ⟨r, l, f, x5, rfl, s10, Q10, W10⟩
          rw [List.getElem?_map] at hj
          cases ec : (usersOf ns x)[j]? with
          | none => rw [ec] at hj; cases hj
          | some c =>
            rw [ec] at hj
            cases hj
            have hcm := mem_usersOf.mp (List.mem_of_getElem? ec)
            have hc := (hb _ hcm).1
            have cl : c < l.length := by rw [W10.ll]; exact hc
            have cf : c < f.length := by rw [W10.lf]; exact hc
            have xf : x < f.length := by rw [W10.lf]; exact hx
            have el : l[c]? = some l[c] := List.getElem?_eq_getElem cl
            have ef : f[c]? = some f[c] := List.getElem?_eq_getElem cf
            have eo : f[x]? = some f[x] := List.getElem?_eq_getElem xf
            generalize l[c] = lc at el
            generalize f[c] = mc at ef
            generalize f[x] = mo at eo
            have hnt : c ∉ (usersOf ns x).take j := fun h => by
              obtain ⟨k, hk1, hk2⟩ := List.mem_iff_getElem.mp h
              rw [List.getElem_take] at hk2
              have hk3 : (usersOf ns x)[k]? = some c := by rw [← hk2]; exact List.getElem?_eq_getElem _
              have := nd_ix (nodup_usersOf hnd) hk3 ec
              rw [List.length_take] at hk1
              omega
            obtain ⟨hcx, hl1, W11⟩ := W10.step hnd hcm (by simp [hxD, hnt]) hc List.mem_cons_self el ef eo
            have W12 := W11.congr (P' := fun p => decide (p.2 ∈ D) || (decide (p.2 = x) && decide (p.1 ∈ (usersOf ns x).take (j + 1)))) fun p hp => by
              obtain ⟨p1, p2⟩ := p
              rw [take_one ec]
              by_cases h1 : p2 = x
              · subst h1
                by_cases h2 : p1 = c
                · subst h2; simp
                · simp [h2]
              · simp [h1]
            have keyF : (f.map nV).set c (V.int (Builtin.bitOr (mc : Int) (Builtin.bitOr (mo : Int) ((1 : Int) * 2 ^ ((x : Int)).toNat)))) = (f.set c (mc ||| (mo ||| 2 ^ x))).map nV := by
              rw [pow1, bor_nat, bor_nat, ← map_set]
            have keyL : (l.map nV).set c (V.int ((lc : Int) - 1)) = (l.set c (lc - 1)).map nV := by
              rw [← map_set]
              congr 2
              omega
            dsimp only [gName]
            refine st_eq (t := tSeq _ _) (σ' := [some (nV n), some (.ref a), some (.ref L), some (.ref U), none, some (nV c), some (nV x), some (.ref F), some (.ref R), some (nV (D.length + 1))]) rfl ?_
            refine ⟨_, rfl, _, rfl, F, _, c, nV mc, rfl, rfl, .inl (.inl Q10.eF), map_get ef, _, rfl, _, rfl, F, _, _, nV mo, rfl, rfl, .inl (.inl Q10.eF), at_of (j := x) rfl (map_get eo), _, rfl, _, _, rfl, rfl, ⟨by omega, by omega, by decide⟩, _, _, rfl, rfl, _, _, rfl, rfl, F, _, _, c, rfl, rfl, Q10.eF, by rw [List.length_map]; exact ixN_nat cf, ?_⟩
            dsimp only
            rw [keyF]
            have Q11 := Q10.putF (f' := f.set c (mc ||| (mo ||| 2 ^ x))) A
            have s11 := same_put (o := .lst ((f.set c (mc ||| (mo ||| 2 ^ x))).map nV)) s10 nF0
            generalize upd H9 F (.lst ((f.set c (mc ||| (mo ||| 2 ^ x))).map nV)) = H10 at Q11 s11 ⊢
            refine ⟨_, rfl, _, rfl, L, _, c, nV lc, rfl, rfl, .inl (.inl Q11.eL), map_get el, _, _, rfl, rfl, L, _, _, c, rfl, rfl, Q11.eL, by rw [List.length_map]; exact ixN_nat cl, ?_⟩
            dsimp only
            rw [keyL]
            have Q12 := Q11.putL (l' := l.set c (lc - 1)) A
            have s12 := same_put (o := .lst ((l.set c (lc - 1)).map nV)) s11 nL0
            generalize upd H10 L (.lst ((l.set c (lc - 1)).map nV)) = H11 at Q12 s12 ⊢
            refine ⟨_, rfl, _, rfl, L, _, _, nV (lc - 1), rfl, rfl, .inl (.inl Q12.eL), at_of (j := c) rfl (map_get (by rw [List.getElem?_set_self cl])), rfl, _, rfl, ite_ok (fun hz => ?_) fun hz => ?_⟩
            · have hz' : lc - 1 = 0 := by
                injection hz with z
                omega
              rw [if_pos hz'] at W12
              have rl : r.length ≤ n := nodup_below W10.rn fun d hd => ((W10.rm d).mp hd).1
              refine ⟨_, rfl, .inl ⟨rfl, _, .inl (.inl Q12.eR)⟩, _, rfl, R, _, _, rfl, rfl, Q12.eR, by rw [List.length_map]; omega, ?_⟩
              refine ⟨r ++ [c], _, _, _, rfl, same_put s12 nR0, ?_, W12⟩
              rw [show r.map nV ++ [nV c] = (r ++ [c]).map nV by rw [List.map_append]; rfl]
              exact Q12.putR A
            · have hz' : ¬ lc - 1 = 0 := fun z => hz (by rw [z]; rfl)
              rw [if_neg hz'] at W12
              exact ⟨r, _, _, _, rfl, s12, Q12, W12⟩
        · rintro σ H9 ⟨r, l, f, x5, rfl, s10, Q10, W10⟩
          rw [List.length_map, List.take_length] at W10
          have W11 := W10.congr (P' := fun p => decide (p.2 ∈ x :: D)) fun p hp => by
            obtain ⟨p1, p2⟩ := p
            by_cases h1 : p2 = x
            · subst h1
              simp [mem_usersOf.mpr hp]
            · simp [h1]
          refine ⟨⟨x :: D, r, l, f, x5, _, rfl, s10, Q10, W11, T9⟩, ?_⟩
          show n - ((D.length + 1 : Nat) : Int).toNat < n - ((D.length : Nat) : Int).toNat
          omega
      · have hr : r = [] := by
          cases r with
          | nil => rfl
          | cons a b => simp at hk
        subst hr
        obtain ⟨d1, d2, d3⟩ := W8.done T8 hb
        refine ⟨_, rfl, _, rfl, _, _, rfl, rfl, _, rfl, ite_ok (fun hz => ?_) fun hz => ?_⟩
        · exact q2 H7 s8 (d2 (by omega))
        · refine ⟨_, rfl, .inl ⟨F, _, rfl, .inl (.inl Q8.eF), fun p np => ?_⟩⟩
          exact q1 p _ f (same_put s8 (s8.free np)) (s8.free np) upd_same (d1 (by omega))
    · rintro σ H7 Q1 Q2 hq ⟨v, e, k, t, z⟩
      exact ⟨v, e, k, t, hq _ _ z⟩
end
end Rip

/-! enumerate of a tuple: no module of the layer has it. -/
namespace PySem
open Sem (wp)
open AutoSeq1 (wpAny_loadPart')
abbrev ripIt (l : Addr) : Obj := { cls := .type "tuple_iterator", data := .fields #[.ref l, .int 0 0] }
abbrev ripEn (i : Addr) : Obj := { cls := .type "enumerate", data := .fields #[.none, .bool false, .ref i, rawInt 0, .none, .none] }
theorem rip_enum_new (l : Addr) (items : Array Value) (n : Nat) (dct : Option Addr) (sl : Array (Option Value)) :
    Meets (Builtin.«enumerate.__new__» ⟨[.type "enumerate", .ref l], []⟩)
      (fun _ R s => s.heap.get? l = some { cls := .type "tuple", dict := dct, data := .seq items n, slots := sl } ∧
        R (.ok (.ret (.ref (s.heap.push (ripIt l)).objs.size)))
          { s with heap := (s.heap.push (ripIt l)).push (ripEn s.heap.objs.size) }) :=
  .of_wp fun prog w A R s h => by
    obtain ⟨hp, g, d, tk, os⟩ := s
    obtain ⟨hl, h⟩ := h
    have hsub := sub_enumerate
    have hL : Heap.IsTuple (Shared.heap ⟨hp, g, d, tk, os⟩) l items := ⟨_, hl, rfl, n, rfl⟩
    wp_walk using wpAny_loadPart' hl
    refine wpAny_stack_any fun st => wpAny_pure ?_
    split
    · rename_i c _ _ _ _ _
      cases (c == Value.type "enumerate")
      · wp_walk using wpAny_loadPart' hl, wpAny_pyIter_tuple hL
        exact ⟨_, rfl, h⟩
      · wp_walk using wpAny_loadPart' hl, wpAny_pyIter_tuple hL
        exact ⟨_, rfl, h⟩
    · wp_walk using wpAny_loadPart' hl, wpAny_pyIter_tuple hL
      exact ⟨_, rfl, h⟩
section
variable {prog : Program} {w : World} {A : Around} {E : Value → Shared → Prop} {s : Shared}
theorem rip_call_enum {l : Addr} {items : Array Value} {Q : Value → Shared → Prop} (hL : s.heap.IsTuple l items)
    (h : ∀ h', IsEnum h' (s.heap.objs.size + 1) s.heap.objs.size 0 .none → h'.IsTupleIter s.heap.objs.size l 0 →
      (∀ b o, s.heap.get? b = some o → h'.get? b = some o) → Q (.ref (s.heap.objs.size + 1)) { s with heap := h' }) :
    wpAny (model prog w) A (call (.type "enumerate") [.ref l]) Q E s := by
  obtain ⟨⟨c, dct, dt, sl⟩, hl, hc, n, hd⟩ := hL
  replace hc : c = .type "tuple" := hc
  replace hd : dt = .seq items n := hd
  subst hc hd
  refine callType_new F.called_enumerate (by decide) (F.typeCall_enumerate_1 _) (F.newCall_enumerate_1 _)
    (fun obj => F.args_object_init_2 obj _) F.entry_enumerate_new (rip_enum_new l items n dct sl) ⟨hl, ?_⟩
  have hz : (s.heap.push (ripIt l)).objs.size = s.heap.objs.size + 1 := Heap.size_push ..
  show _ ∧ _
  rw [hz]
  have he : IsEnum ((s.heap.push (ripIt l)).push (ripEn s.heap.objs.size)) (s.heap.objs.size + 1) s.heap.objs.size 0 .none := by
    have z := Heap.get?_push_size (s.heap.push (ripIt l)) (o := ripEn s.heap.objs.size) rfl
    rw [hz] at z
    exact z
  refine ⟨⟨_, he, rfl⟩, h _ he ⟨_, Heap.get?_push_of_some _ (Heap.get?_push_size _ rfl), rfl, rfl⟩ fun b o x => ?_⟩
  exact Heap.get?_push_of_some _ (Heap.get?_push_of_some _ x)
theorem rip_draws_tup (hh : A.handled = none) (it l : Addr) (hne : l ≠ it) (items : Array Value) :
    Draws prog w A it [it, l] items.size (fun i v => items[i]? = some v) (fun i h => h.IsTupleIter it l i ∧ h.IsTuple l items) where
  live := fun _ _ st => let ⟨o, ho, _⟩ := st.1; ⟨o, ho⟩
  frame := fun _ _ _ ⟨a, o, ho, r⟩ hk => ⟨a.at fun o e => hk it (by simp) o e, o, hk l (by simp) o ho, r⟩
  item := fun i s Q E hi ⟨a, b⟩ hQ => by
    refine RZ.nextOf_tuple_item a b (x := items[i]) (by simp [hi]) fun h' hit' hs' => ?_
    obtain ⟨o, ho, r⟩ := b
    exact hQ _ h' s.toks (by simp [hi]) ⟨hit', o, hs'.extBut _ _ hne ho, r⟩ hs'
  done := fun s Q E st hE => RZ.nextOf_tuple_end hh st.1 st.2 (by simp) hE
theorem rip_draws_end (hh : A.handled = none) (it l : Addr) (items : Array Value) (i : Nat) (hx : items[i]? = none) :
    Draws prog w A it [it, l] 0 (fun _ _ => True) (fun _ h => h.IsTupleIter it l i ∧ h.IsTuple l items) where
  live := fun _ _ st => let ⟨o, ho, _⟩ := st.1; ⟨o, ho⟩
  frame := fun _ _ _ ⟨a, o, ho, r⟩ hk => ⟨a.at fun o e => hk it (by simp) o e, o, hk l (by simp) o ho, r⟩
  item := fun i s Q E hi _ _ => absurd hi (Nat.not_lt_zero _)
  done := fun s Q E st hE => RZ.nextOf_tuple_end hh st.1 st.2 hx hE
end
end PySem
namespace Rip
open PySem PySem.Spec PyProof.Rows L2
/-- the tuple at a, each item in a new pair -/
def IteT (K : PySem.W.Frag) (a : Addr) : It :=
  ⟨fun i H => ∃ (xs : List V) (x : V), SqT K H a xs ∧ xs[i]? = some x,
    fun i H v H' => ∃ T x, v = .ref T ∧ H T = none ∧ H' = upd H T (.tup [.int (i : Nat), x]) ∧ ∀ xs, SqT K H a xs → xs[i]? = some x,
    fun i H => ∃ xs : List V, SqT K H a xs ∧ xs.length ≤ i⟩
theorem turn_enumT {P : Program} {w : World} {K : PySem.W.Frag} {elts : List Expr} {kk : Nat} {tpos : Pos} (a e it : Addr) (ait : a ≠ it) (ae : a ≠ e) :
    Turn P w K (.Tuple elts kk tpos) (IteT K a) [e, it] e (fun i h => (∃ old, IsEnum h e it ((i : Nat) : Int) old) ∧ h.IsTupleIter it a i ∧ e ≠ it) where
  mem := by simp
  obj := fun i h st b hb => by
    obtain ⟨⟨old, he⟩, ⟨o, ho, hc, hd⟩, _⟩ := st
    rcases (show b = e ∨ b = it by simpa using hb) with z | z
    · rw [z]; exact ⟨_, he, fun v q => nomatch q⟩
    · rw [z]; exact ⟨o, ho, fun v q => by rw [hd] at q; cases q⟩
  keep := fun i h h' st k => let ⟨⟨old, he⟩, hi, hne⟩ := st; ⟨⟨old, k e (by simp) _ he⟩, hi.at fun o q => k it (by simp) o q, hne⟩
  item := by
    intro X hP hw hK hc i pins s σ H E I hf st hg
    subst hP hw hK
    obtain ⟨⟨old, he⟩, hit, hne⟩ := st
    obtain ⟨xs, x, hq, hx⟩ := hg
    obtain ⟨its, rv, p, hz⟩ := I.tuple hq
    obtain ⟨u, hu, ru⟩ := rv.get hx
    have hel : e < s.heap.objs.size := Heap.lt_size he
    have hil : it < s.heap.objs.size := by obtain ⟨_, q, _⟩ := hit; exact Heap.lt_size q
    have hlt : i < its.toArray.size := by
      have := (List.getElem?_eq_some_iff.mp hu).1
      simpa using this
    have D := rip_draws_tup (prog := X.prog) (w := X.w) (A := X.A.in1) (I.ok.hd hc) it a ait its.toArray
    refine wpAny_pyNext_enum_itemD D he ⟨hit, p⟩ hlt hne (by simp only [List.mem_cons, List.not_mem_nil, or_false, not_or]; exact ⟨hne, ae.symm⟩) fun y h' tk hy ho hst hT hsz hk => ?_
    have ey : y = u := by
      have z : its.toArray[i]? = some u := by simpa using hu
      exact Option.some.inj (hy.symm.trans z)
    subst ey
    refine ⟨_, rfl, wpAny_letOwnedTupleGo_enum (s := { s with heap := h', toks := tk + 1 }) ho fun h'' he' sb => ?_⟩
    have hT2 : h''.get? s.heap.objs.size = some { cls := .type "tuple", data := .seq #[.int i tk, y] } := (sb.2 _ (Nat.ne_of_gt hel)).trans hT
    have new : ObjOk X.prog X.w (upd H s.heap.objs.size (.tup [.int (i : Nat), x])) h'' s.heap.objs.size (.tup [.int (i : Nat), x]) :=
      ⟨by show 2 ≤ sizeLine; decide, [.int i tk, y], .cons ⟨_, rfl⟩ (.cons ru .nil), ⟨_, hT2, rfl, _, rfl⟩⟩
    have I1 : Inv X pins σ (upd H s.heap.objs.size (.tup [.int (i : Nat), x])) { s with heap := h'', toks := tk + 1 } :=
      I.turnedNew (ch := [e, it]) (fun b ob hb q => (sb.2 b (fun z => hb (by simp [z]))).trans
        (hk b ob (fun z => hb (by simp [z])) (fun z => hb (by simp [z])) q)) hf (Nat.le_refl _) new
    refine ⟨.ref s.heap.objs.size, _, I1, rfl, ⟨_, x, rfl, I.hok.fresh (Nat.le_refl _), rfl, fun ys hy => by rw [I.tuple_inj hy hq]; exact hx⟩,
      ⟨⟨y, ?_⟩, hst.1.at fun o q => (sb.2 it (Ne.symm hne)).trans q, hne⟩, fun b hb => ?_⟩
    · rw [show ((i + 1 : Nat) : Int) = (i : Int) + 1 by omega]
      exact he'
    · have hb' : b < s.heap.objs.size := by
        rcases (show b = e ∨ b = it by simpa using hb) with z | z
        · rw [z]; exact hel
        · rw [z]; exact hil
      rw [upd_ne (Nat.ne_of_lt hb')]
      exact (hf b hb).1
  done := by
    intro X hP hw hK hc i pins s σ H E I hf st hg
    subst hP hw hK
    obtain ⟨⟨old, he⟩, hit, hne⟩ := st
    obtain ⟨xs, hq, hx⟩ := hg
    obtain ⟨its, rv, p, hz⟩ := I.tuple hq
    obtain ⟨f0, f1, f2, f3, f4, f5⟩ := hf it (by simp)
    have hl := rv.length
    have D := rip_draws_end (prog := X.prog) (w := X.w) (A := X.A.in1) (I.ok.hd hc) it a its.toArray i (by simp; omega)
    exact wpAny_pyNext_enum_endD D he ⟨hit, p⟩ fun h' eb => ⟨rfl, I.turned (t' := s.toks) (fun b o hb q => eb b o hb q) f0 f1 f3 f4 f5⟩
  self := fun A i s Q E st h => let ⟨⟨_, he⟩, _⟩ := st; wpAny_pyIter_enum he h
def iEnumT (K : PySem.W.Frag) (ta : TA) : TI := fun σ H R => ta σ H fun vs H1 => ∃ a xs, vs = [.ref a] ∧ SqT K H1 a xs ∧ R (IteT K a) H1
theorem pi_enumT {X : Cx} {e : Expr} {ta : TA} {p pos tpos : Pos} {elts : List Expr} {kk : Nat} (hg : Gl X "enumerate") (hm : X.mg "enumerate" = none) (ha : PA X [e] ta) (hs : starEach [e] X.env = [(false, eval e X.env)] := by rfl) :
    PI X (.Tuple elts kk tpos) (.Call (.Name "enumerate" p) [e] [] pos) (iEnumT X.K ta) := by
  refine ⟨fun pins s σ H R I h => ?_⟩
  refine Call_ (ld_blt I hg hm boot_enumerate (PyProof.Rows.callWith_type1
    (thn (ha.run pos pins s σ H _ I h) fun us s1 ⟨vs, H1, I1, r1, a, xs, ex, hq, q⟩ => ?_) hs rfl))
  subst ex
  cases r1 with
  | cons r rr =>
    cases rr
    cases r
    obtain ⟨its, rv, p', hz⟩ := I1.tuple hq
    have al : a < s1.heap.objs.size := by obtain ⟨_, z, _⟩ := p'; exact Heap.lt_size z
    refine rip_call_enum p' fun h' he hit hk => wpAny_pyIter_enum he ?_
    have I2 : Inv X pins σ H1 { s1 with heap := h' } := I1.kept (t' := s1.toks) hk
    refine ⟨s1.heap.objs.size + 1, [s1.heap.objs.size + 1, s1.heap.objs.size], _, _, H1, rfl, I2,
      turn_enumT a (s1.heap.objs.size + 1) s1.heap.objs.size (Nat.ne_of_lt al) (Nat.ne_of_lt (Nat.lt_succ_of_lt al)), ⟨⟨.none, he⟩, hit, Nat.succ_ne_self _⟩, fun b hb => ?_, q⟩
    have hle : s1.heap.objs.size ≤ b := by
      rcases (show b = s1.heap.objs.size + 1 ∨ b = s1.heap.objs.size by simpa using hb) with z | z
      · rw [z]; exact Nat.le_add_right _ _
      · rw [z]; exact Nat.le_refl _
    exact I1.fpOk hle (I1.hok.fresh hle)
theorem walk_enumT {K : PySem.W.Frag} {a : Addr} {xs : List V} : Walk (IteT K a) xs.length (fun H => SqT K H a xs) (YPair (fun i => some (.int (i : Nat))) (fun i => xs[i]?)) := by
  refine ⟨fun i _ hi q => ⟨xs, xs[i], q, by simp [hi]⟩, fun _ q => ⟨xs, q, Nat.le_refl _⟩, fun i H v H' _ q y => ?_⟩
  obtain ⟨T, x, h1, h2, h3, h4⟩ := y
  exact ⟨T, .int (i : Nat), x, h1, h2, h3, rfl, h4 xs q⟩
end Rip

/-! Books: their parts looked at, a book made of right parts without a ring. -/
namespace Rip
open PySem PySem.Spec PyProof.Rows L2
/-- what is never come to -/
theorem ps_no {X : Cx} {st : Stmt} : PS X st (fun _ _ _ => False) := ⟨fun _ _ _ _ _ _ h => h.elim⟩
theorem tyx_tup {K : PySem.W.Frag} {H : Hp} {a : Addr} {xs : List V} (h : SqT K H a xs) : TyX K H (.ref a) (.type "tuple") := by
  unfold SqT at h
  rcases h with (h | ⟨o, h⟩) | ⟨o, its, n, h1, h2, _⟩
  · exact .base (.tup h)
  · exact .fTuple h
  · exact .kTuple h1 h2
/-- pairs by their order -/
def ltP (p q : Nat × Nat) : Prop := p.1 < q.1 ∨ (p.1 = q.1 ∧ p.2 < q.2)
theorem lex_two (a b c d : Nat) : Ob.lexAt (fun j => decide (([(a : Int), (b : Int)] : List Int).getD j 0 = ([(c : Int), (d : Int)] : List Int).getD j 0)) (fun j => decide (([(a : Int), (b : Int)] : List Int).getD j 0 ≤ ([(c : Int), (d : Int)] : List Int).getD j 0)) (decide (2 ≤ 2)) 0 2 = decide (a < c ∨ (a = c ∧ b ≤ d)) := by
  show (if decide ((a : Int) = (c : Int)) = true then (if decide ((b : Int) = (d : Int)) = true then decide (2 ≤ 2) else decide ((b : Int) ≤ (d : Int))) else decide ((a : Int) ≤ (c : Int))) = _
  by_cases h1 : a = c
  · subst h1
    rw [if_pos (decide_eq_true rfl)]
    by_cases h2 : b = d
    · subst h2
      rw [if_pos (decide_eq_true rfl)]
      simp
    · rw [if_neg (by simp only [decide_eq_true_eq]; omega)]
      exact decide_eq_decide.mpr ⟨fun z => .inr ⟨rfl, by omega⟩, fun z => by omega⟩
  · rw [if_neg (by simp only [decide_eq_true_eq]; omega)]
    exact decide_eq_decide.mpr ⟨fun z => .inl (by omega), fun z => by omega⟩
/-- right parts of a book, without a ring -/
structure Right (bl : List Nat) (ns : List (Nat × Nat)) : Prop where
  few : bl.length ≤ 200
  blk : ∀ b ∈ bl, b < 50
  nfew : ns.length ≤ 4000
  asc : ns.Pairwise ltP
  inn : ∀ p ∈ ns, p.1 < bl.length ∧ p.2 < bl.length ∧ p.1 ≠ p.2
section
variable {P : Program} {w : World} {K : PySem.W.Frag} {mg : Str → Option Value} {base : Heap}
abbrev s_isneed : Stmt := top 20
abbrev s_areb : Stmt := top 18
abbrev s_check : Stmt := top 19
abbrev s_init : Stmt := inClass (top 17) 0
/-! ### is_need -/
def spIsNeed (K : PySem.W.Frag) : Sp := fun vs H Q _ => ∃ (n : Nat) (r : Addr) (c o : Nat), vs = [nV n, .ref r] ∧ SqT K H r [nV c, nV o] ∧ Q (.bl (decide (c < n ∧ o < n ∧ c ≠ o))) H
abbrev scNdN : List Str := ["many", "thing", "change", "other"]
theorem scNd : FnScope scNdN ["many", "thing"] (defScope s_isneed) := ⟨rfl, rfl, rfl, by decide +kernel, rfl, by decide +kernel, by decide +kernel⟩
theorem ok_isneed {f fB fN : Addr} {fd fdB fdN : FuncData} (F : Fun K "is_need" "is_need" s_isneed f fd) (B : Blt mg) (FB : Fun K "is_number_below" "is_number_below" s_isbelow fB fdB) (bB : Binds K fdB ["bound", "thing"] []) (gB : mg "is_number_below" = some (.ref fB))
    (FN : NumT K mg fN fdN) (bN : Binds K fdN ["thing"] []) (gN : mg "is_number" = some (.ref fN)) : FnOk P w K mg base CX0 4 f fd ["many", "thing"] (spIsNeed K) := by
  have GB : FnOk P w K mg base CX0 3 fB fdB ["bound", "thing"] (spIsBelow K) := ok_isbelow FB FN bN gN B
  refine F.ok scNd (fun vs H Q E h => ?_) (fun cdv A outer s H vs Q E hr h => ?_)
  · obtain ⟨n, r, c, o, rfl, _⟩ := h
    rfl
  · obtain ⟨n, r, c, o, rfl, hS, q⟩ := h
    refine ⟨_,
      (pss_cons (ps_if (pw_or (pt_not (pt_val (pe_callB call_isi (by rfl) B.isinstance PyProof.Rows.boot_isinstance (pa_cons (pv 1) (pa_cons (pe_bltn (v := .ty "tuple") (by rfl) B.tuple PyProof.Rows.boot_tuple rfl) pa_nil))))) (pw_or1 (pt_cmpR op_ne (pe_callB call_len_seq (by rfl) B.len PySem.boot_len (pa_cons (pv 1) pa_nil)) pe_int (nomark _)))).pt
        (pss_one ps_no) pss_nil)
      (pss_cons (ps_asg (pv 1) (pg_tup rfl (pgs_cons (pg_name (i := 2) scNd.nd rfl (.inl rfl)) (pgs_cons (pg_name (i := 3) scNd.nd rfl (.inl rfl)) pgs_nil))))
      (pss_one (ps_ret (pe_and (pe_call GB hr (by rfl) gB FB.kp bB .nil pass0 (pa_cons (pv 0) (pa_cons (pv 2) pa_nil))) (pe_and (pe_call GB hr (by rfl) gB FB.kp bB .nil pass0 (pa_cons (pv 0) (pa_cons (pv 3) pa_nil))) (pe_one (pe_cmpR op_ne (pv 2) (pv 3) (nomark _))))))))), ?_⟩
    refine ⟨_, rfl, _, _, _, _, true, rfl, .ty "tuple", tyx_tup hS, kit_ty (by decide +kernel), _, rfl, iteF ?_⟩
    refine ⟨_, rfl, r, _, rfl, .inr hS, rfl, _, rfl, iteNS rfl ?_⟩
    refine ⟨_, rfl, r, _, rfl, hS, rfl, _, _, rfl, _, [], rfl, rfl, ?_⟩
    refine ⟨_, rfl, _, rfl, _, _, rfl, ob_int _, _, rfl, ?_⟩
    show if decide ((0 : Int) ≤ (c : Int) ∧ (c : Int) < (n : Int)) = true then _ else _
    refine ite_ok (fun h1 => ?_) fun h1 => ?_
    · refine ⟨_, rfl, _, rfl, _, _, rfl, ob_int _, _, rfl, ?_⟩
      show if decide ((0 : Int) ≤ (o : Int) ∧ (o : Int) < (n : Int)) = true then _ else _
      refine ite_ok (fun h2 => ?_) fun h2 => ?_
      · refine ⟨_, rfl, _, rfl, rfl, ?_⟩
        have e : (!decide (nV c = nV o)) = decide (c < n ∧ o < n ∧ c ≠ o) := by
          by_cases h : c = o
          · subst h; simp
          · have : ¬ nV c = nV o := fun z => by injection z with z; omega
            rw [decide_eq_false this, decide_eq_true (by omega)]
            rfl
        rw [e]
        exact q
      · rw [decide_eq_false (by omega)] at q
        exact q
    · rw [decide_eq_false (by omega)] at q
      exact q
/-! ### check_parts of right parts -/
structure Consts (mg : Str → Option Value) : Prop where
  c1 : ∃ t, mg "MOST_CHANGES" = some (.int 200 t)
  c2 : ∃ t, mg "MOST_BLOCKS" = some (.int 50 t)
  c3 : ∃ t, mg "MOST_NEEDS" = some (.int 4000 t)
theorem pe_const {X : Cx} {x : Str} {pos : Pos} {i : Int} (hg : Gl X x) (h : ∃ t, X.mg x = some (.int i t)) (hd : (x == ("__debug__" : Str)) = false := by decide) : PE X (.Name x pos) (tC (.int i)) := by
  obtain ⟨t, h⟩ := h
  exact pe_glob hg h ⟨t, rfl⟩ hd
/-! ### are_blocks of right ones -/
def spAreB (K : PySem.W.Frag) : Sp := fun vs H Q _ => ∃ (b : Addr) (bl : List Nat), vs = [.ref b] ∧ SqT K H b (bl.map nV) ∧ bl.length ≤ 200 ∧ (∀ x ∈ bl, x < 50) ∧ ∀ H', Same H H' → Q (.bl true) H'
def AreT (K : PySem.W.Frag) (mg : Str → Option Value) : Prop := ∃ f fd, Fun K "are_blocks" "are_blocks" s_areb f fd ∧ Binds K fd ["thing"] [] ∧ mg "are_blocks" = some (.ref f)
abbrev scAreN : List Str := ["thing", "block"]
theorem scAre : FnScope scAreN ["thing"] (defScope s_areb) := ⟨rfl, rfl, rfl, by decide +kernel, rfl, by decide +kernel, by decide +kernel⟩
theorem ok_areb {f fB fN : Addr} {fd fdB fdN : FuncData} (F : Fun K "are_blocks" "are_blocks" s_areb f fd) (B : Blt mg) (C : Consts mg) (FB : Fun K "is_number_below" "is_number_below" s_isbelow fB fdB) (bB : Binds K fdB ["bound", "thing"] []) (gB : mg "is_number_below" = some (.ref fB))
    (FN : NumT K mg fN fdN) (bN : Binds K fdN ["thing"] []) (gN : mg "is_number" = some (.ref fN)) : FnOk P w K mg base CX0 4 f fd ["thing"] (spAreB K) := by
  have GB : FnOk P w K mg base CX0 3 fB fdB ["bound", "thing"] (spIsBelow K) := ok_isbelow FB FN bN gN B
  refine F.ok scAre (fun vs H Q E h => ?_) (fun cdv A outer s H vs Q E hr h => ?_)
  · obtain ⟨b, bl, rfl, _⟩ := h
    rfl
  · obtain ⟨b, bl, rfl, hB, hl, h50, q⟩ := h
    refine ⟨_,
      (pss_cons (ps_if (pw_or (pt_not (pt_val (pe_callB call_isi (by rfl) B.isinstance PyProof.Rows.boot_isinstance (pa_cons (pv 0) (pa_cons (pe_bltn (v := .ty "tuple") (by rfl) B.tuple PyProof.Rows.boot_tuple rfl) pa_nil))))) (pw_or1 (pt_cmpR op_gt (pe_callB call_len_seq (by rfl) B.len PySem.boot_len (pa_cons (pv 0) pa_nil)) (pe_const (by rfl) C.c1) (nomark _)))).pt
        (pss_one ps_no) pss_nil)
      (pss_one (ps_ret (pe_callB (cr_all rfl) (by rfl) B.all PyProof.Rows.boot_all (pa_cons (pe_lc (own := [("block", 1)]) (g := gName 1) (tt := tYes)
        (te := tCall (spIsBelow K) [] E0 (tCons (tC (.int 50)) (tCons (tVar 1) tNil))) rfl scAre.nd (pi_tup (pv 0)) (blkOk_by (own := [("block", 1)]) (N := scAreN) (sc := defScope s_areb) (by decide +kernel)) (fun _ _ _ _ _ => (pg_name (i := 1) scAre.nd rfl (.inl rfl))) (fun _ _ _ _ _ => pts_nil)
        (fun _ _ _ _ _ => (pe_call GB hr (by rfl) gB FB.kp bB .nil pass0 (pa_cons (pe_const (by rfl) C.c2) (pa_cons (pv 1) pa_nil))))) pa_nil))))), ?_⟩
    refine ⟨_, rfl, _, _, _, _, true, rfl, .ty "tuple", tyx_tup hB, kit_ty (by decide +kernel), _, rfl, iteF ?_⟩
    refine ⟨_, rfl, b, _, rfl, .inr hB, _, _, rfl, rfl, _, rfl, iteN (by rw [List.length_map]; omega) ?_⟩
    refine ⟨_, rfl, b, rfl, ⟨_, hB⟩, fun D nD => ?_⟩
    refine lc_tup (K := K) (a := b) (xs := bl.map nV) (fun i H2 => Same H H2 ∧ H2 D = some (.lst (List.map V.bl (List.replicate i true)))) ⟨same_upd nD, upd_same⟩ (fun i H2 _ z => same_seqT z.1 hB) ?_ ?_
    · rintro i x H2 ex ⟨s2, eD⟩
      rw [List.getElem?_map] at ex
      cases ec : bl[i]? with
      | none => rw [ec] at ex; cases ex
      | some c =>
        rw [ec] at ex
        cases ex
        have hc := h50 c (List.mem_of_getElem? ec)
        have hi := (List.getElem?_eq_some_iff.mp ec).1
        refine ⟨rfl, _, rfl, _, _, rfl, ob_int _, _, eD, ?_, same_put s2 nD, ?_⟩
        · rw [List.length_map, List.length_replicate, sizeLine_eq]
          omega
        · rw [upd_same, List.replicate_succ', List.map_append]
          have eA : V.bl (isBelow 50 (nV c)) = V.bl true := by
            show V.bl (decide ((0 : Int) ≤ (c : Int) ∧ (c : Int) < 50)) = _
            rw [decide_eq_true (by omega)]
          exact congrArg (fun z => some (HO.lst (_ ++ [z]))) eA
    · rintro H2 ⟨s2, eD⟩
      refine ⟨D, _, rfl, .inl (.inl eD), ?_⟩
      have e3 : (List.replicate (bl.map nV).length true).all id = true := by
        rw [List.all_eq_true]
        intro x hx
        exact (List.mem_replicate.mp hx).2
      rw [e3]
      exact q H2 s2
def spCheck (K : PySem.W.Frag) : Sp := fun vs H Q _ => ∃ (b a : Addr) (bl : List Nat) (ns : List (Nat × Nat)), vs = [.ref b, .ref a] ∧ SqT K H b (bl.map nV) ∧ PairsAt K H a ns ∧ Right bl ns ∧ ∀ H', Same H H' → Q .non H'
abbrev scCkN : List Str := ["blocks", "needs", "index", "need"]
theorem scCk : FnScope scCkN ["blocks", "needs"] (defScope s_check) := ⟨rfl, rfl, rfl, by decide +kernel, rfl, by decide +kernel, by decide +kernel⟩
theorem ok_check {f fB fN fD : Addr} {fd fdB fdN fdD : FuncData} (F : Fun K "check_parts" "check_parts" s_check f fd) (B : Blt mg) (C : Consts mg) (FB : Fun K "is_number_below" "is_number_below" s_isbelow fB fdB) (bB : Binds K fdB ["bound", "thing"] []) (gB : mg "is_number_below" = some (.ref fB))
    (FN : NumT K mg fN fdN) (bN : Binds K fdN ["thing"] []) (gN : mg "is_number" = some (.ref fN)) (FD : Fun K "is_need" "is_need" s_isneed fD fdD) (bD : Binds K fdD ["many", "thing"] []) (gD : mg "is_need" = some (.ref fD)) (hA : AreT K mg) :
    FnOk P w K mg base CX0 5 f fd ["blocks", "needs"] (spCheck K) := by
  have GB : FnOk P w K mg base CX0 3 fB fdB ["bound", "thing"] (spIsBelow K) := ok_isbelow FB FN bN gN B
  obtain ⟨fA, fdA, FA, bA, gA⟩ := hA
  have GA : FnOk P w K mg base CX0 4 fA fdA ["thing"] (spAreB K) := ok_areb FA B C FB bB gB FN bN gN
  have GD : FnOk P w K mg base CX0 4 fD fdD ["many", "thing"] (spIsNeed K) := ok_isneed FD B FB bB gB FN bN gN
  refine F.ok scCk (fun vs H Q E h => ?_) (fun cdv A outer s H vs Q E hr h => ?_)
  · obtain ⟨b, a, bl, ns, rfl, _⟩ := h
    rfl
  · obtain ⟨b, a, bl, ns, rfl, hB, PA, R, q⟩ := h
    obtain ⟨rs, hA, hrl, hrs⟩ := id PA
    have hu := hu_of hr
    refine ⟨_,
      (pss_cons (ps_if (pt_not (pt_val (pe_call GA (hr.mono (by decide)) (by rfl) gA FA.kp bA .nil pass0 (pa_cons (pv 0) pa_nil))))
        (pss_one ps_no) pss_nil)
      (pss_cons (ps_if (pw_or (pt_not (pt_val (pe_callB call_isi (by rfl) B.isinstance PyProof.Rows.boot_isinstance (pa_cons (pv 1) (pa_cons (pe_bltn (v := .ty "tuple") (by rfl) B.tuple PyProof.Rows.boot_tuple rfl) pa_nil))))) (pw_or1 (pt_cmpR op_gt (pe_callB call_len_seq (by rfl) B.len PySem.boot_len (pa_cons (pv 1) pa_nil)) (pe_const (by rfl) C.c3) (nomark _)))).pt
        (pss_one ps_no) pss_nil)
      (pss_one (ps_for PassesOwn.never rfl (pi_enumT (by rfl) B.enumerate (pa_cons (pv 1) pa_nil)) (pg_tup rfl (pgs_cons (pg_name (i := 2) scCk.nd rfl (.inl rfl)) (pgs_cons (pg_name (i := 3) scCk.nd rfl (.inl rfl)) pgs_nil)))
        (pss_cons (ps_if (pt_not (pt_val (pe_call GD (hr.mono (by decide)) (by rfl) gD FD.kp bD .nil pass0 (pa_cons (pe_callB call_len_seq (by rfl) B.len PySem.boot_len (pa_cons (pv 0) pa_nil)) (pa_cons (pv 3) pa_nil)))))
          (pss_one ps_no) pss_nil)
        (pss_one (ps_if (pw_and (pt_cmpR op_gt (pv 2) pe_int (nomark _)) (pw_and1 (pt_cmpR (op_leT (Nat.lt_of_succ_lt hu)) (pv 3) (pe_ix ix_tup (pv 1) (pe_op op_sub (pv 2) pe_int) (fun _ _ => rfl)) (nomark _)))).pt
          (pss_one ps_no) pss_nil))))))), ?_⟩
    refine ⟨_, rfl, b, bl, rfl, hB, R.few, R.blk, fun H2 s0 => ⟨_, rfl, iteF ?_⟩⟩
    have hA := same_seqT s0 hA
    have hrs : ∀ (i : Nat) (r : Addr) (p : Nat × Nat), rs[i]? = some r → ns[i]? = some p → SqT K H2 r [nV p.1, nV p.2] := fun i r p x y => same_seqT s0 (hrs i r p x y)
    have hB := same_seqT s0 hB
    refine ⟨_, rfl, _, _, _, _, true, rfl, .ty "tuple", tyx_tup hA, kit_ty (by decide +kernel), _, rfl, iteF ?_⟩
    refine ⟨_, rfl, a, _, rfl, .inr hA, _, _, rfl, rfl, _, rfl, iteN (by have := R.nfew; rw [List.length_map, hrl]; omega) ?_⟩
    -- the needs
    refine ⟨_, rfl, a, _, rfl, hA, for_it (walk_enumT (K := K) (a := a) (xs := rs.map V.ref)) (fun i σ H3 => Same H2 H3 ∧ ∃ y z, σ = [some (.ref b), some (.ref a), y, z]) ⟨Same.refl H2, none, none, rfl⟩ (fun i σ H3 _ z => same_seqT z.1 hA) ?_ ?_⟩
    · rintro i x σ H3 H4 hi ⟨s3, y, z, rfl⟩ ⟨T, v1, v2, rfl, nT, rfl, e1, e2⟩
      have e1' : V.int (i : Int) = v1 := Option.some.inj e1
      subst e1'
      have e2 : (rs.map V.ref)[i]? = some v2 := e2
      rw [List.length_map, hrl] at hi
      rw [List.getElem?_map] at e2
      cases er : rs[i]? with
      | none => rw [er] at e2; cases e2
      | some r =>
        rw [er] at e2
        cases e2
        have en : ns[i]? = some ns[i] := List.getElem?_eq_getElem hi
        generalize ns[i] = p at en
        obtain ⟨c, o⟩ := p
        obtain ⟨hc, ho, hco⟩ := R.inn (c, o) (List.mem_of_getElem? en)
        have sT := s3.trans (same_upd (o := .tup [.int (i : Int), .ref r]) nT)
        refine ⟨T, _, rfl, .inl (.inl upd_same), rfl, _, _, rfl, _, [], rfl, rfl, ?_⟩
        generalize upd H3 T (.tup [.int (i : Int), .ref r]) = H5 at sT ⊢
        have hr5 := same_seqT sT (hrs i r (c, o) er en)
        refine st_eq (σ' := [some (.ref b), some (.ref a), some (.int (i : Int)), some (.ref r)]) rfl ?_
        refine ⟨_, rfl, b, _, rfl, .inr (same_seqT sT hB), _, rfl, bl.length, r, c, o, by rw [List.length_map]; rfl, hr5, _, rfl, ?_⟩
        refine iteNS ⟨hc, ho, hco⟩ ?_
        refine ⟨_, rfl, _, _, rfl, rfl, _, rfl, ite_ok (fun h0 => ?_) fun h0 => ⟨sT, _, _, rfl⟩⟩
        have i1 : i - 1 < rs.length := by omega
        have er1 : rs[i - 1]? = some rs[i - 1] := List.getElem?_eq_getElem i1
        generalize rs[i - 1] = r1 at er1
        have en1 : ns[i - 1]? = some ns[i - 1] := List.getElem?_eq_getElem (by omega)
        have hlt : ltP ns[i - 1] (c, o) := by
          have h1 := List.pairwise_iff_getElem.mp R.asc (i - 1) i (by omega) hi (by omega)
          have h2 : ns[i] = (c, o) := Option.some.inj ((List.getElem?_eq_getElem hi).symm.trans en)
          rw [h2] at h1
          exact h1
        generalize ns[i - 1] = p1 at en1 hlt
        obtain ⟨c1, o1⟩ := p1
        have hr1 := same_seqT sT (hrs (i - 1) r1 (c1, o1) er1 en1)
        refine ⟨_, rfl, _, rfl, _, rfl, _, _, rfl, rfl, a, _, _, .ref r1, rfl, rfl, same_seqT sT hA, at_of (j := i - 1) (by omega) (by rw [List.getElem?_map, er1]; rfl), r, r1, [(c : Int), (o : Int)], [(c1 : Int), (o1 : Int)], rfl, rfl, hr5, hr1, _, rfl, ?_⟩
        have e : Ob.lexAt (fun j => decide (([(c : Int), (o : Int)] : List Int).getD j 0 = ([(c1 : Int), (o1 : Int)] : List Int).getD j 0)) (fun j => decide (([(c : Int), (o : Int)] : List Int).getD j 0 ≤ ([(c1 : Int), (o1 : Int)] : List Int).getD j 0)) (decide (([(c : Int), (o : Int)] : List Int).length ≤ ([(c1 : Int), (o1 : Int)] : List Int).length)) 0 (min ([(c : Int), (o : Int)] : List Int).length ([(c1 : Int), (o1 : Int)] : List Int).length) = decide (c < c1 ∨ (c = c1 ∧ o ≤ o1)) := lex_two c o c1 o1
        rw [e]
        exact iteN (by rcases hlt with h | h <;> simp only at h <;> omega) ⟨sT, _, _, rfl⟩
    · rintro σ H3 ⟨s3, y, z, rfl⟩
      exact q H3 (s0.trans s3)
/-! ### a book -/
abbrev fldsB (b a f : Addr) : List (Str × V) := [(("blocks" : Str), V.ref b), (("needs" : Str), V.ref a), (("far" : Str), V.ref f)]
/-- at p a book of these blocks and needs, with its masks -/
structure BookAt (K : PySem.W.Frag) (C : Addr) (H : Hp) (p : Addr) (bl : List Nat) (ns : List (Nat × Nat)) (f : List Nat) : Prop where
  ob : ∃ dx b a t, H p = some (.ins C dx (fldsB b a t)) ∧ SqT K H b (bl.map nV) ∧ PairsAt K H a ns ∧ SqT K H t (f.map nV)
  fars : FarsOf bl.length ns f
theorem PairsAt.same {H H' : Hp} {a : Addr} {ns : List (Nat × Nat)} (h : PairsAt K H a ns) (s : Same H H') : PairsAt K H' a ns := by
  obtain ⟨rs, h1, h2, h3⟩ := h
  exact ⟨rs, same_seqT s h1, h2, fun i r p x y => same_seqT s (h3 i r p x y)⟩
theorem BookAt.same {C : Addr} {H H' : Hp} {p : Addr} {bl : List Nat} {ns : List (Nat × Nat)} {f : List Nat} (h : BookAt K C H p bl ns f) (s : Same H H') : BookAt K C H' p bl ns f := by
  obtain ⟨dx, b, a, t, h1, h2, h3, h4⟩ := h.ob
  exact ⟨⟨dx, b, a, t, s _ _ h1, same_seqT s h2, h3.same s, same_seqT s h4⟩, h.fars⟩
/-- what the top says of the class -/
structure BkT (K : PySem.W.Frag) (mg : Str → Option Value) (C : Addr) : Prop where
  cl : Cls K C
  nb : NoAttr K C "blocks"
  nn : NoAttr K C "needs"
  nf : NoAttr K C "far"
  g : mg "Book" = some (.ref C)
def spInitB (K : PySem.W.Frag) (C : Addr) : Sp := fun vs H Q _ => ∃ (p dx b a : Addr) (bl : List Nat) (ns : List (Nat × Nat)), vs = [.ref p, .ref b, .ref a] ∧ H p = some (.ins C dx []) ∧ SqT K H b (bl.map nV) ∧ PairsAt K H a ns ∧ Right bl ns ∧ (∀ c, c < bl.length → ¬ Far ns c c) ∧
  ∀ (f : List Nat) (H' : Hp), BookAt K C H' p bl ns f → (∀ c o, H c = some o → c ≠ p → H' c = some o) → Q .non H'
abbrev scBkN : List Str := ["self", "blocks", "needs", "far"]
theorem scBk : FnScope scBkN ["self", "blocks", "needs"] (defScope s_init) := ⟨rfl, rfl, rfl, by decide +kernel, rfl, by decide +kernel, by decide +kernel⟩
theorem kBN : ¬ ("blocks" : Str) = "needs" := by decide +kernel
theorem kBF : ¬ ("blocks" : Str) = "far" := by decide +kernel
theorem kNF : ¬ ("needs" : Str) = "far" := by decide +kernel
theorem put2 (b a : V) : putF "needs" a (putF "blocks" b []) = ([(("blocks" : Str), b), (("needs" : Str), a)] : List (Str × V)) := by
  show (if ("blocks" : Str) = "needs" then [(("blocks" : Str), a)] else (("blocks" : Str), b) :: putF "needs" a []) = _
  rw [if_neg kBN]
  rfl
theorem put3 (b a f : V) : putF "far" f ([(("blocks" : Str), b), (("needs" : Str), a)] : List (Str × V)) = ([(("blocks" : Str), b), (("needs" : Str), a), (("far" : Str), f)] : List (Str × V)) := by
  show (if ("blocks" : Str) = "far" then _ else (("blocks" : Str), b) :: (if ("needs" : Str) = "far" then _ else (("needs" : Str), a) :: putF "far" f [])) = _
  rw [if_neg kBF, if_neg kNF]
  rfl
theorem seqT_put {H : Hp} {p a : Addr} {C dx : Addr} {fs : List (Str × V)} {o : HO} {xs : List V} (hp : H p = some (.ins C dx fs)) (h : SqT K H a xs) : SqT K (upd H p o) a xs := by
  unfold SqT at *
  rcases h with (h | ⟨u, h⟩) | h
  · exact .inl (.inl (by rw [upd_ne (ne_of h hp (by intro z; cases z))]; exact h))
  · exact .inl (.inr ⟨u, by rw [upd_ne (ne_of h hp (by intro z; cases z))]; exact h⟩)
  · exact .inr h
theorem asc_nodup {ns : List (Nat × Nat)} (h : ns.Pairwise ltP) : ns.Nodup := h.imp fun {p q} z e => by
  subst e
  unfold ltP at z
  omega
theorem ok_init {f fC fF fB fN fD C : Addr} {fd fdC fdF fdB fdN fdD : FuncData} (F : Fun K "__init__" "Book.__init__" s_init f fd) (B : Blt mg) (Cn : Consts mg) (T : BkT K mg C)
    (FC : Fun K "check_parts" "check_parts" s_check fC fdC) (bC : Binds K fdC ["blocks", "needs"] []) (gC : mg "check_parts" = some (.ref fC))
    (FF : Fun K "far_masks" "far_masks" s_far fF fdF) (bF : Binds K fdF ["many", "needs"] []) (gF : mg "far_masks" = some (.ref fF))
    (FB : Fun K "is_number_below" "is_number_below" s_isbelow fB fdB) (bB : Binds K fdB ["bound", "thing"] []) (gB : mg "is_number_below" = some (.ref fB))
    (FN : NumT K mg fN fdN) (bN : Binds K fdN ["thing"] []) (gN : mg "is_number" = some (.ref fN)) (FD : Fun K "is_need" "is_need" s_isneed fD fdD) (bD : Binds K fdD ["many", "thing"] []) (gD : mg "is_need" = some (.ref fD)) (hA : AreT K mg) :
    FnOk P w K mg base CX0 6 f fd ["self", "blocks", "needs"] (spInitB K C) := by
  have GC : FnOk P w K mg base CX0 5 fC fdC ["blocks", "needs"] (spCheck K) := ok_check FC B Cn FB bB gB FN bN gN FD bD gD hA
  have GF : FnOk P w K mg base CX0 1 fF fdF ["many", "needs"] (spFar K) := ok_far FF B
  refine F.ok scBk (fun vs H Q E h => ?_) (fun cdv A outer s H vs Q E hr h => ?_)
  · obtain ⟨p, dx, b, a, bl, ns, rfl, _⟩ := h
    rfl
  · obtain ⟨p, dx, b, a, bl, ns, rfl, hp, hB, PA, R, hno, q⟩ := h
    refine ⟨_,
      (pss_cons (ps_expr (pe_call GC hr (by rfl) gC FC.kp bC .nil pass0 (pa_cons (pv 1) (pa_cons (pv 2) pa_nil))))
      (pss_cons (ps_set (i := 3) scBk.nd rfl (.inl rfl) (pe_call GF (hr.mono (by decide)) (by rfl) gF FF.kp bF .nil pass0 (pa_cons (pe_callB call_len_seq (by rfl) B.len PySem.boot_len (pa_cons (pv 1) pa_nil)) (pa_cons (pv 2) pa_nil))))
      (pss_cons (ps_if (pt_cmp (pc_isN (pv 3))) (pss_one ps_no) pss_nil)
      (pss_cons (ps_fld (pv 0) (pv 1) rfl)
      (pss_cons (ps_fld (pv 0) (pv 2) rfl)
      (pss_one (ps_fld (pv 0) (pv 3) rfl))))))), ?_⟩
    refine ⟨_, rfl, _, rfl, b, a, bl, ns, rfl, hB, PA, R, fun H1 s1 => ?_⟩
    have hB1 := same_seqT s1 hB
    have PA1 := PA.same s1
    refine ⟨_, rfl, b, _, rfl, .inr hB1, _, rfl, bl.length, a, ns, by rw [List.length_map]; rfl, PA1, asc_nodup R.asc, fun z hz => ⟨(R.inn z hz).1, (R.inn z hz).2.1⟩, by have := R.few; omega, by have := R.nfew; omega, fun t H2 fs s2 nt ht FO => ?_, fun H2 s2 ⟨c, hc, fc⟩ => absurd fc (hno c hc)⟩
    have s12 := s1.trans s2
    refine ⟨_, rfl, _, rfl, iteF ?_⟩
    have hp2 := s12 _ _ hp
    have ht2 : SqT K H2 t (fs.map nV) := .inl (.inl ht)
    refine ⟨_, rfl, _, rfl, p, C, dx, [], rfl, hp2, T.cl, T.nb, by decide, ?_⟩
    refine ⟨_, rfl, _, rfl, p, C, dx, _, rfl, upd_same, T.cl, T.nn, by show 1 < 1000; decide, ?_⟩
    refine ⟨_, rfl, _, rfl, p, C, dx, _, rfl, upd_same, T.cl, T.nf, by rw [put2]; show 2 < 1000; decide, ?_⟩
    have e1 : putF "far" (V.ref t) (putF "needs" (V.ref a) (putF "blocks" (V.ref b) [])) = fldsB b a t := by
      rw [put2, put3]
    rw [upd_upd, upd_upd]
    refine q fs _ ⟨⟨dx, b, a, t, by rw [upd_same]; exact congrArg (fun z => some (HO.ins C dx z)) e1, seqT_put hp2 (same_seqT s12 hB), ?_, seqT_put hp2 ht2⟩, FO⟩ fun c o e hc => by rw [upd_ne hc]; exact s12 _ _ e
    obtain ⟨rs, h1, h2, h3⟩ := PA.same s12
    exact ⟨rs, seqT_put hp2 h1, h2, fun i r z x y => seqT_put hp2 (h3 i r z x y)⟩
end
end Rip

/-! What is asked of a book: beneath, above, put_together, parted, day. -/
namespace Rip
open PySem PySem.Spec PyProof.Rows L2
section
variable {X : Cx} {C : Addr} {bmB : List Value} {B newId initId : String}
/-- C(), raised -/
theorem pmk_own0 {x : Str} {p pos : Pos} (F : ExcBaseFacts B newId initId bmB) (q : PySem.W.excIn X.K C bmB newId = true) (gC : X.mg x = some (.ref C)) (kC : PySem.W.keepIn X.K (.ref C) = true) (r : Raises X (.ref C)) (hg : Gl X x)
    (hdb : (x == ("__debug__" : Str)) = false := by decide) : PMk X (.Call (.Name x p) [] [] pos) (fun _ H Q => Q (.ref C) none H) := by
  intro pins s σ H Q I h
  refine wpAny_Call_Name_kw (ld_glob I hg gC ?_ hdb)
  refine PySem.W.callWith_K0 I.kIn kC ?_
  obtain ⟨bm, N, nm, qn, bs, hdct, sn, sub, ab, col, dd, k0, k1, k2, k3, k5, mN, hC, hN, hni, T⟩ := exc_obj I.kIn q
  refine wpAny_call_exc_subT F T hC hN hni (fun h' e hm => ?_) (by show 0 ≤ sizeLine; omega)
  exact mk_of I hm r h (I.hok.gone hm.new)
end
/-- an error class of the package without __init__ -/
structure ErT (K : PySem.W.Frag) (mg : Str → Option Value) (nm : Str) (C : Addr) : Prop where
  x : PySem.W.excIn K C [.type "ValueError", .type "Exception", .type "BaseException", .type "object"] "ValueError.__new__" = true
  g : mg nm = some (.ref C)
  k : PySem.W.keepIn K (.ref C) = true
  b : PySem.W.subIn K (.ref C) (.type "BaseException") = some true
  t : PySem.W.typeIn K (.ref C) = some (.type "type")
theorem lk_blocks (b a t : Addr) : (fldsB b a t).lookup ("blocks" : Str) = some (.ref b) := by
  rfl
theorem lk_needs (b a t : Addr) : (fldsB b a t).lookup ("needs" : Str) = some (.ref a) := by
  rfl
theorem lk_far (b a t : Addr) : (fldsB b a t).lookup ("far" : Str) = some (.ref t) := by
  rfl
theorem Far.ends {ns : List (Nat × Nat)} {n : Nat} (hb : ∀ p ∈ ns, p.1 < n ∧ p.2 < n) {c o : Nat} (f : Far ns c o) : o < n := by
  induction f with
  | one h => exact (hb _ h).2
  | step _ _ ih => exact ih
section
variable {P : Program} {w : World} {K : PySem.W.Frag} {mg : Str → Option Value} {base : Heap}
abbrev s_isblock : Stmt := top 21
/-! ### the fields -/
theorem BookAt.blk {C : Addr} {H : Hp} {p : Addr} {bl : List Nat} {ns : List (Nat × Nat)} {f : List Nat} (T : BkT K mg C) (h : BookAt K C H p bl ns f) {Q : VK} (q : ∀ b, SqT K H b (bl.map nV) → Q (.ref b) H) :
    ∃ a C dx fs v, V.ref p = .ref a ∧ H a = some (.ins C dx fs) ∧ Cls K C ∧ NoAttr K C "blocks" ∧ fs.lookup ("blocks" : Str) = some v ∧ Q v H := by
  obtain ⟨dx, b, a, t, h1, h2, h3, h4⟩ := h.ob
  exact ⟨p, C, dx, _, .ref b, rfl, h1, T.cl, T.nb, lk_blocks b a t, q b h2⟩
theorem BookAt.nds {C : Addr} {H : Hp} {p : Addr} {bl : List Nat} {ns : List (Nat × Nat)} {f : List Nat} (T : BkT K mg C) (h : BookAt K C H p bl ns f) {Q : VK} (q : ∀ a, PairsAt K H a ns → Q (.ref a) H) :
    ∃ a C dx fs v, V.ref p = .ref a ∧ H a = some (.ins C dx fs) ∧ Cls K C ∧ NoAttr K C "needs" ∧ fs.lookup ("needs" : Str) = some v ∧ Q v H := by
  obtain ⟨dx, b, a, t, h1, h2, h3, h4⟩ := h.ob
  exact ⟨p, C, dx, _, .ref a, rfl, h1, T.cl, T.nn, lk_needs b a t, q a h3⟩
theorem BookAt.frs {C : Addr} {H : Hp} {p : Addr} {bl : List Nat} {ns : List (Nat × Nat)} {f : List Nat} (T : BkT K mg C) (h : BookAt K C H p bl ns f) {Q : VK} (q : ∀ t, SqT K H t (f.map nV) → Q (.ref t) H) :
    ∃ a C dx fs v, V.ref p = .ref a ∧ H a = some (.ins C dx fs) ∧ Cls K C ∧ NoAttr K C "far" ∧ fs.lookup ("far" : Str) = some v ∧ Q v H := by
  obtain ⟨dx, b, a, t, h1, h2, h3, h4⟩ := h.ob
  exact ⟨p, C, dx, _, .ref t, rfl, h1, T.cl, T.nf, lk_far b a t, q t h4⟩
theorem far_small {n c m : Nat} {ns : List (Nat × Nat)} {f : List Nat} (h : FarsOf n ns f) (hn : n ≤ 100000) (hb : ∀ z ∈ ns, z.1 < n ∧ z.2 < n) (hc : f[c]? = some m) : m < 2 ^ n := by
  refine Nat.lt_pow_two_of_testBit m fun i hi => ?_
  cases e : m.testBit i with
  | false => rfl
  | true => exact absurd (Far.ends hb ((h.bits c m hc i).mp e)) (by omega)
theorem below_nat {n : Nat} {v : V} (h : isBelow n v = true) : ∃ c, v = nV c ∧ c < n := by
  cases v with
  | int i =>
    have h : decide (0 ≤ i ∧ i < (n : Int)) = true := h
    have h := of_decide_eq_true h
    exact ⟨i.toNat, congrArg V.int (by omega), by omega⟩
  | _ => cases h
end
end Rip

/-! Books made of parts that are right: made_book, is_block, put_together, parted. -/
namespace Rip
open PySem PySem.Spec PyProof.Rows L2
section
variable {P : Program} {w : World} {K : PySem.W.Frag} {mg : Str → Option Value} {base : Heap}
theorem Right.nil : Right [] [] := ⟨by decide, fun _ h => (nomatch h), by decide, .nil, fun _ h => (nomatch h)⟩
theorem Far.nil {c o : Nat} (f : Far [] c o) : False := by
  induction f with
  | one h => cases h
  | step h _ _ => cases h
/-- all that stands near the making of a book -/
structure MkB (K : PySem.W.Frag) (mg : Str → Option Value) (C fI fC fF fB fN fD : Addr) (fdI fdC fdF fdB fdN fdD : FuncData) : Prop where
  M : Mk K C fI
  FI : Fun K "__init__" "Book.__init__" s_init fI fdI
  bI : Binds K fdI ["self", "blocks", "needs"] []
  B : Blt mg
  Cn : Consts mg
  T : BkT K mg C
  FC : Fun K "check_parts" "check_parts" s_check fC fdC
  bC : Binds K fdC ["blocks", "needs"] []
  gC : mg "check_parts" = some (.ref fC)
  FF : Fun K "far_masks" "far_masks" s_far fF fdF
  bF : Binds K fdF ["many", "needs"] []
  gF : mg "far_masks" = some (.ref fF)
  FB : Fun K "is_number_below" "is_number_below" s_isbelow fB fdB
  bB : Binds K fdB ["bound", "thing"] []
  gB : mg "is_number_below" = some (.ref fB)
  FN : NumT K mg fN fdN
  bN : Binds K fdN ["thing"] []
  gN : mg "is_number" = some (.ref fN)
  FD : Fun K "is_need" "is_need" s_isneed fD fdD
  bD : Binds K fdD ["many", "thing"] []
  gD : mg "is_need" = some (.ref fD)
  hA : AreT K mg
section
variable {C fI fC fF fB fN fD : Addr} {fdI fdC fdF fdB fdN fdD : FuncData}
theorem MkB.init (m : MkB K mg C fI fC fF fB fN fD fdI fdC fdF fdB fdN fdD) : FnOk P w K mg base CX0 6 fI fdI ["self", "blocks", "needs"] (spInitB K C) :=
  ok_init m.FI m.B m.Cn m.T m.FC m.bC m.gC m.FF m.bF m.gF m.FB m.bB m.gB m.FN m.bN m.gN m.FD m.bD m.gD m.hA
theorem MkB.far (m : MkB K mg C fI fC fF fB fN fD fdI fdC fdF fdB fdN fdD) : FnOk P w K mg base CX0 1 fF fdF ["many", "needs"] (spFar K) := ok_far m.FF m.B
end
theorem put_b (b a t b2 : Addr) : putF "blocks" (V.ref b2) (fldsB b a t) = fldsB b2 a t := by
  rfl
theorem put_n (b a t a2 : Addr) : putF "needs" (V.ref a2) (fldsB b a t) = fldsB b a2 t := by
  show (if ("blocks" : Str) = "needs" then _ else (("blocks" : Str), V.ref b) :: putF "needs" (V.ref a2) [(("needs" : Str), V.ref a), (("far" : Str), V.ref t)]) = _
  rw [if_neg kBN]
  rfl
theorem put_f (b a t t2 : Addr) : putF "far" (V.ref t2) (fldsB b a t) = fldsB b a t2 := by
  show (if ("blocks" : Str) = "far" then _ else (("blocks" : Str), V.ref b) :: (if ("needs" : Str) = "far" then _ else (("needs" : Str), V.ref a) :: putF "far" (V.ref t2) [(("far" : Str), V.ref t)])) = _
  rw [if_neg kBF, if_neg kNF]
  rfl
/-! ### is_block -/
def spIsBlock (K : PySem.W.Frag) (C : Addr) : Sp := fun vs H Q _ => ∃ (p : Addr) (v : V) (bl : List Nat) (ns : List (Nat × Nat)) (f : List Nat), vs = [.ref p, v] ∧ BookAt K C H p bl ns f ∧ Ob K H v ∧ Q (.bl (isNum v && inV v (bl.map nV))) H
abbrev scIbN : List Str := ["book", "thing"]
theorem scIb : FnScope scIbN ["book", "thing"] (defScope s_isblock) := ⟨rfl, rfl, rfl, by decide +kernel, rfl, by decide +kernel, by decide +kernel⟩
theorem ok_isblock {C f fN : Addr} {fd fdN : FuncData} (F : Fun K "is_block" "is_block" s_isblock f fd) (B : Blt mg) (T : BkT K mg C) (FN : NumT K mg fN fdN) (bN : Binds K fdN ["thing"] []) (gN : mg "is_number" = some (.ref fN)) :
    FnOk P w K mg base CX0 3 f fd ["book", "thing"] (spIsBlock K C) := by
  have GN : FnOk P w K mg base CX0 2 fN fdN ["thing"] (spIsNum K) := ok_isnum FN B
  refine F.ok scIb (fun vs H Q E h => ?_) (fun cdv A outer s H vs Q E hr h => ?_)
  · obtain ⟨p, v, bl, ns, f, rfl, _⟩ := h
    rfl
  · obtain ⟨p, v, bl, ns, fs, rfl, hk, ob, q⟩ := h
    obtain ⟨dx, b, a, t, h1, hb, _, _⟩ := hk.ob
    refine ⟨_, (pss_one (ps_ret (pe_and (pe_call GN hr (by rfl) gN FN.kp bN .nil pass0 (pa_cons (pv 1) pa_nil)) (pe_one (pe_cmpR op_in_seq (pv 1) (pe_fld (pv 0) rfl) (by with_unfolding_all rfl)))))), ?_⟩
    refine ⟨_, rfl, v, rfl, ob, _, rfl, ?_⟩
    cases v with
    | int i =>
      show if decide (0 ≤ i) = true then _ else _
      refine ite_ok (fun hi => ?_) fun hi => ?_
      · refine ⟨_, rfl, _, rfl, p, C, dx, _, .ref b, rfl, h1, T.cl, T.nb, lk_blocks b a t, b, _, rfl, .inr hb, rfl, by rw [List.all_map]; exact List.all_eq_true.mpr fun _ _ => rfl, ?_⟩
        have e : (isNum (.int i) && inV (.int i) (bl.map nV)) = inV (.int i) (bl.map nV) := by
          show (decide (0 ≤ i) && _) = _
          rw [decide_eq_true hi, Bool.true_and]
        rw [e] at q
        exact q
      · have e : (isNum (.int i) && inV (.int i) (bl.map nV)) = false := by
          show (decide (0 ≤ i) && _) = _
          rw [decide_eq_false hi, Bool.false_and]
        rw [e] at q
        exact q
    | bl x => exact iteF q
    | non => exact iteF q
    | str x => exact iteF q
    | byt x => exact iteF q
    | flt x => exact iteF q
    | ref x => exact iteF q
    | ty x => exact iteF q
end
end Rip

/-! put_together, parted. -/
namespace Rip
open PySem PySem.Spec PyProof.Rows L2
/-- whether a thing is a block of these -/
def isBlk (bl : List Nat) (v : V) : Bool := isNum v && inV v (bl.map nV)
theorem inV_nat (bl : List Nat) (x : Nat) : inV (nV x) (bl.map nV) = decide (x ∈ bl) := by
  unfold inV
  rw [List.any_map]
  induction bl with
  | nil => simp
  | cons y l ih =>
    rw [List.any_cons, ih]
    have e : ((fun y => eqV y (nV x)) ∘ nV) y = decide (x = y) := by
      show decide ((y : Int) = (x : Int)) = decide (x = y)
      exact decide_eq_decide.mpr ⟨fun h => by omega, fun h => by omega⟩
    rw [e]
    by_cases h : x = y
    · subst h; simp
    · simp [h]
theorem isBlk_nat {bl : List Nat} {v : V} (h : isBlk bl v = true) : ∃ x, v = nV x ∧ x ∈ bl := by
  unfold isBlk at h
  rw [Bool.and_eq_true] at h
  obtain ⟨h1, h2⟩ := h
  cases v with
  | int i =>
    have h1 : decide (0 ≤ i) = true := h1
    have h1 := of_decide_eq_true h1
    have e : V.int i = nV i.toNat := congrArg V.int (by omega)
    rw [e] at h2 ⊢
    rw [inV_nat] at h2
    exact ⟨_, rfl, of_decide_eq_true h2⟩
  | _ => cases h1
section
variable {P : Program} {w : World} {K : PySem.W.Frag} {mg : Str → Option Value} {base : Heap}
/-- a book that may be made further -/
structure Fit (bl : List Nat) (ns : List (Nat × Nat)) : Prop where
  nd : ns.Nodup
  inn : ∀ z ∈ ns, z.1 < bl.length ∧ z.2 < bl.length
  few : bl.length ≤ 100000
  nfew : ns.length ≤ 1000000
/-! ### parted -/
theorem catA_of {a b : Addr} {xs ys : List V} {H : Hp} {Q : VK} (ha : SqT K H a xs) (hb : SqT K H b ys) (hl : xs.length + ys.length ≤ sizeLine) (q : ∀ (p : Addr) (H' : Hp), Same H H' → SqT K H' p (xs ++ ys) → Q (.ref p) H') : rCatA K (.ref a) (.ref b) H Q := by
  refine ⟨a, b, xs, ys, rfl, rfl, ha, hb, hl, fun e => ?_, fun _ e => ?_, fun _ _ p np => ?_⟩
  · subst e
    exact q b H (Same.refl H) hb
  · subst e
    exact q a H (Same.refl H) (by rw [List.append_nil]; exact ha)
  · exact q p _ (same_upd np) (.inl (.inl upd_same))
theorem cut_lo (xs : List V) {c : Nat} (h : c ≤ xs.length) : cutV xs none (some (c : Int)) = xs.take c := by
  unfold cutV
  rw [HT.sIx_none, HT.sIx_nat, List.drop_zero, Nat.min_eq_left h, Nat.sub_zero]
theorem cut_hi (xs : List V) {c : Nat} (h : c < xs.length) : cutV xs (some ((c : Int) + 1)) none = xs.drop (c + 1) := by
  unfold cutV
  rw [HT.sIx_none, show ((c : Int) + 1) = ((c + 1 : Nat) : Int) from rfl, HT.sIx_nat, Nat.min_eq_left (by omega)]
  exact List.take_of_length_le (by rw [List.length_drop]; omega)
theorem set_cut {bl : List Nat} {c k : Nat} (h : c < bl.length) : ((bl.map nV).take c ++ [nV k]) ++ (bl.map nV).drop (c + 1) = (bl.set c k).map nV := by
  rw [List.set_eq_take_append_cons_drop, if_pos h, List.map_append, List.map_cons, List.map_take, List.map_drop, List.append_assoc]
  rfl
end
end Rip

/-! is_lot_below, above. -/
namespace Rip
open PySem PySem.Spec PyProof.Rows L2
/-- whether these are ascending numbers below n, the first one beyond what was ahead -/
def lotGo (n : Int) : Int → List V → Bool
  | _, [] => true
  | a, .int i :: r => (decide (0 ≤ i ∧ i < n) && decide (a < i)) && lotGo n i r
  | _, _ :: _ => false
theorem lotGo_nat (n : Nat) : ∀ (xs : List V) (a : Int), lotGo n a xs = true → ∃ l : List Nat, xs = l.map nV ∧ l.Pairwise (· < ·) ∧ ∀ i ∈ l, i < n ∧ a < (i : Int) := by
  intro xs
  induction xs with
  | nil => exact fun a _ => ⟨[], rfl, .nil, fun _ h => nomatch h⟩
  | cons x r ih =>
    intro a h
    cases x with
    | int i =>
      have h : ((decide (0 ≤ i ∧ i < (n : Int)) && decide (a < i)) && lotGo n i r) = true := h
      rw [Bool.and_eq_true, Bool.and_eq_true, decide_eq_true_eq, decide_eq_true_eq] at h
      obtain ⟨⟨h1, h2⟩, h3⟩ := h
      obtain ⟨l, rfl, hp, hl⟩ := ih i h3
      refine ⟨i.toNat :: l, ?_, List.pairwise_cons.mpr ⟨fun j hj => ?_, hp⟩, fun j hj => ?_⟩
      · rw [List.map_cons]
        congr 2
        omega
      · have := (hl j hj).2
        omega
      · rcases List.mem_cons.mp hj with e | hj
        · subst e
          omega
        · have := hl j hj
          omega
    | _ => cases h
theorem lotGo_map (n : Nat) : ∀ (l : List Nat) (a : Int), l.Pairwise (· < ·) → (∀ i ∈ l, i < n ∧ a < (i : Int)) → lotGo n a (l.map nV) = true := by
  intro l
  induction l with
  | nil => exact fun _ _ _ => rfl
  | cons i l ih =>
    intro a hp h
    obtain ⟨h1, h2⟩ := h i List.mem_cons_self
    have hp' := List.pairwise_cons.mp hp
    show ((decide (0 ≤ (i : Int) ∧ (i : Int) < (n : Int)) && decide (a < (i : Int))) && lotGo n i (l.map nV)) = true
    rw [decide_eq_true (by omega), decide_eq_true h2, ih i hp'.2 fun j hj => ⟨(h j (List.mem_cons_of_mem _ hj)).1, by have := hp'.1 j hj; omega⟩]
    rfl
section
variable {P : Program} {w : World} {K : PySem.W.Frag} {mg : Str → Option Value} {base : Heap}
/-! ### is_lot_below -/
def spIsLot (K : PySem.W.Frag) : Sp := fun vs H Q _ => ∃ (n : Nat) (v : V) (tp : Bool), vs = [nV n, v] ∧ ObT K H v tp ∧ (tp = false → Q (.bl false) H) ∧
  (tp = true → ∃ (t : Addr) (xs : List V), v = .ref t ∧ SqT K H t xs ∧ (∀ x ∈ xs, Ob K H x) ∧ Q (.bl (lotGo n (-1) xs)) H)
abbrev scIlN : List Str := ["bound", "thing", "ahead", "item"]
theorem scIl : FnScope scIlN ["bound", "thing"] (defScope s_islot) := ⟨rfl, rfl, rfl, by decide +kernel, rfl, by decide +kernel, by decide +kernel⟩
theorem drop_one {α : Type} {l : List α} {i : Nat} {x : α} (h : l[i]? = some x) : l.drop i = x :: l.drop (i + 1) := by
  obtain ⟨hi, e⟩ := List.getElem?_eq_some_iff.mp h
  rw [List.drop_eq_getElem_cons hi, e]
theorem ok_islot {f fB fN : Addr} {fd fdB fdN : FuncData} (F : Fun K "is_lot_below" "is_lot_below" s_islot f fd) (B : Blt mg) (FB : Fun K "is_number_below" "is_number_below" s_isbelow fB fdB) (bB : Binds K fdB ["bound", "thing"] []) (gB : mg "is_number_below" = some (.ref fB))
    (FN : NumT K mg fN fdN) (bN : Binds K fdN ["thing"] []) (gN : mg "is_number" = some (.ref fN)) : FnOk P w K mg base CX0 4 f fd ["bound", "thing"] (spIsLot K) := by
  have GB : FnOk P w K mg base CX0 3 fB fdB ["bound", "thing"] (spIsBelow K) := ok_isbelow FB FN bN gN B
  refine F.ok scIl (fun vs H Q E h => ?_) (fun cdv A outer s H vs Q E hr h => ?_)
  · obtain ⟨n, v, tp, rfl, _⟩ := h
    rfl
  · obtain ⟨n, v, tp, rfl, ot, q0, q1⟩ := h
    refine ⟨_,
      (pss_cons (ps_if (pt_not (pt_val (pe_callB call_isi (by rfl) B.isinstance PyProof.Rows.boot_isinstance (pa_cons (pv 1) (pa_cons (pe_bltn (v := .ty "tuple") (by rfl) B.tuple PyProof.Rows.boot_tuple rfl) pa_nil)))))
        (pss_one (ps_ret pe_bl)) pss_nil)
      (pss_cons (ps_set (i := 2) scIl.nd rfl (.inl rfl) (pe_un un_neg pe_int))
      (pss_cons (ps_for PassesOwn.never rfl (pi_tup (pv 1)) (pg_name (i := 3) scIl.nd rfl (.inl rfl))
        (pss_cons (ps_if (pw_or (pt_not (pt_val (pe_call GB hr (by rfl) gB FB.kp bB .nil pass0 (pa_cons (pv 0) (pa_cons (pv 3) pa_nil))))) (pw_or1 (pt_cmpR op_le (pv 3) (pv 2) (nomark _)))).pt
          (pss_one (ps_ret pe_bl)) pss_nil)
        (pss_one (ps_set (i := 2) scIl.nd rfl (.inl rfl) (pv 3)))))
      (pss_one (ps_ret pe_bl))))), ?_⟩
    obtain ⟨tt, ty, k1⟩ := ot
    refine ⟨_, rfl, v, _, tt, _, tp, rfl, .ty "tuple", ty, k1, _, rfl, ?_⟩
    cases tp with
    | false => exact iteT (q0 rfl)
    | true =>
      obtain ⟨t, xs, rfl, hS, ho, q⟩ := q1 rfl
      refine iteF ?_
      refine ⟨_, rfl, _, rfl, t, rfl, ⟨_, hS⟩, for_it (walk_tup (K := K) (a := t) (xs := xs)) (fun i σ H2 => H2 = H ∧ ∃ (z : Int) (y : Option V), σ = [some (nV n), some (.ref t), some (.int z), y] ∧ lotGo n (-1) xs = lotGo n z (xs.drop i)) ⟨rfl, -1, none, rfl, rfl⟩ (fun i σ H2 _ z => z.1 ▸ hS) ?_ ?_⟩
      · rintro i x σ H2 H' hi ⟨rfl, z, y, rfl, el⟩ ⟨rfl, ex⟩
        have hob := ho x (at_mem ex)
        rw [drop_one ex] at el
        refine ⟨_, rfl, _, rfl, _, _, rfl, hob, _, rfl, ?_⟩
        have no : isBelow n x = false → lotGo n z (x :: xs.drop (i + 1)) = false := fun h => by
          cases x with
          | int k =>
            have h : decide (0 ≤ k ∧ k < (n : Int)) = false := h
            show ((decide (0 ≤ k ∧ k < (n : Int)) && decide (z < k)) && lotGo n k (xs.drop (i + 1))) = false
            rw [h]
            rfl
          | _ => rfl
        cases e : isBelow n x with
        | false =>
          rw [no e] at el
          rw [el] at q
          exact iteT q
        | true =>
          obtain ⟨k, rfl, hk⟩ := below_nat e
          refine iteF ?_
          refine ⟨_, rfl, _, rfl, _, _, rfl, rfl, _, rfl, ?_⟩
          have el2 : lotGo n z (nV k :: xs.drop (i + 1)) = (decide (z < (k : Int)) && lotGo n k (xs.drop (i + 1))) := by
            show ((decide (0 ≤ (k : Int) ∧ (k : Int) < (n : Int)) && decide (z < (k : Int))) && lotGo n k (xs.drop (i + 1))) = _
            rw [decide_eq_true (by omega), Bool.true_and]
          rw [el2] at el
          refine ite_ok (fun hz => ?_) fun hz => ?_
          · rw [decide_eq_false (by omega), Bool.false_and] at el
            rw [el] at q
            exact q
          · rw [decide_eq_true (by omega), Bool.true_and] at el
            exact ⟨_, rfl, rfl, (k : Int), _, rfl, el⟩
      · rintro σ H2 ⟨rfl, z, y, rfl, el⟩
        rw [List.drop_length] at el
        rw [el] at q
        exact q
end
end Rip

/-! above. -/
namespace Rip
open PySem PySem.Spec PyProof.Rows L2
theorem bit_one (m c : Nat) : Builtin.bitAnd ((m : Int) / 2 ^ c) 1 = if m.testBit c = true then 1 else 0 := by
  have e : ((m : Int) / 2 ^ c) = ((m / 2 ^ c : Nat) : Int) := by
    rw [Int.natCast_ediv, Int.natCast_pow]
    rfl
  rw [e, show (1 : Int) = ((1 : Nat) : Int) from rfl, band_nat, Nat.and_one_is_mod]
  have h := Nat.testBit_eq_decide_div_mod_eq (x := m) (i := c)
  rw [h]
  by_cases z : m / 2 ^ c % 2 = 1
  · rw [z]
    simp
  · have z0 : m / 2 ^ c % 2 = 0 := by omega
    rw [z0]
    simp
/-- the changes that need c -/
def aboveOf (f : List Nat) (c k : Nat) : List Nat := (List.range k).filter fun o => (f.getD o 0).testBit c
theorem aboveOf_succ (f : List Nat) (c k : Nat) {m : Nat} (h : f[k]? = some m) : aboveOf f c (k + 1) = aboveOf f c k ++ (if m.testBit c = true then [k] else []) := by
  unfold aboveOf
  rw [List.range_succ, List.filter_append, List.filter_cons]
  have e : f.getD k 0 = m := by
    rw [List.getD_eq_getElem?_getD, h]
    rfl
  rw [e]
  rfl
theorem aboveOf_len (f : List Nat) (c k : Nat) : (aboveOf f c k).length ≤ k := Nat.le_trans (List.length_filter_le _ _) (by rw [List.length_range]; exact Nat.le_refl _)
/-- m >> c & 1, of the names in slots i and j, as a test -/
abbrev tBit (i j : Nat) : TE := tOp (rI0 fun i j => .int (Builtin.bitAnd i j)) (tOp (fun x y H Q => ∃ (i : Int) (k : Nat), x = .int i ∧ y = .int (k : Int) ∧ Q (.int (i / 2 ^ k)) H) (tVar i) (tVar j)) (tC (.int 1))
abbrev tTru (K : PySem.W.Frag) (te : TE) : TT := fun σ H Q => te σ H fun x H' => ∃ k, TruV K x H' k ∧ Q k H'
/-- a, b = a tuple of two -/
abbrev gTwo (K : PySem.W.Frag) (i j : Nat) : TG := gTup K 2 (gCons (gName i) (gCons (gName j) gNil))
section
variable {P : Program} {w : World} {K : PySem.W.Frag} {mg : Str → Option Value} {base : Heap}
end
end Rip

/-! day. -/
namespace Rip
open PySem PySem.Spec PyProof.Rows L2
/-! ### the needs of a day -/
def dayRow (l : List Nat) (i m : Nat) : List (Nat × Nat) := (lotOf (m &&& maskOf l)).map fun o => (i, l.idxOf o)
def dayNs (l f : List Nat) (k : Nat) : List (Nat × Nat) := (List.range k).flatMap fun i => dayRow l i (f.getD (l.getD i 0) 0)
theorem getD_some {α : Type} {l : List α} {i : Nat} {x d : α} (h : l[i]? = some x) : l.getD i d = x := by
  rw [List.getD_eq_getElem?_getD, h]
  rfl
theorem dayNs_succ {l f : List Nat} {k c m : Nat} (h : l[k]? = some c) (hm : f[c]? = some m) : dayNs l f (k + 1) = dayNs l f k ++ dayRow l k m := by
  unfold dayNs
  rw [List.range_succ, List.flatMap_append, List.flatMap_cons, List.flatMap_nil, List.append_nil, getD_some h, getD_some hm]
theorem mem_row {l : List Nat} {i m : Nat} {z : Nat × Nat} : z ∈ dayRow l i m ↔ ∃ o, m.testBit o = true ∧ o ∈ l ∧ z = (i, l.idxOf o) := by
  unfold dayRow
  rw [List.mem_map]
  constructor
  · rintro ⟨o, ho, rfl⟩
    rw [mem_lotOf, Nat.testBit_and, Bool.and_eq_true, bit_maskOf, decide_eq_true_eq] at ho
    exact ⟨o, ho.1, ho.2, rfl⟩
  · rintro ⟨o, h1, h2, rfl⟩
    exact ⟨o, by rw [mem_lotOf, Nat.testBit_and, h1, bit_maskOf, decide_eq_true h2]; rfl, rfl⟩
theorem mem_day {l f : List Nat} {k : Nat} {z : Nat × Nat} : z ∈ dayNs l f k ↔ z.1 < k ∧ ∃ o, (f.getD (l.getD z.1 0) 0).testBit o = true ∧ o ∈ l ∧ z.2 = l.idxOf o := by
  unfold dayNs
  rw [List.mem_flatMap]
  constructor
  · rintro ⟨i, hi, hz⟩
    rw [mem_row] at hz
    obtain ⟨o, h1, h2, rfl⟩ := hz
    exact ⟨List.mem_range.mp hi, o, h1, h2, rfl⟩
  · rintro ⟨h, o, h1, h2, h3⟩
    exact ⟨z.1, List.mem_range.mpr h, mem_row.mpr ⟨o, h1, h2, by rw [← h3]⟩⟩
theorem idx_lt {l : List Nat} {o : Nat} (h : o ∈ l) : l.idxOf o < l.length := List.idxOf_lt_length_of_mem h
theorem idx_get {l : List Nat} {o : Nat} (h : o ∈ l) : l[l.idxOf o]? = some o := by
  rw [List.getElem?_eq_getElem (idx_lt h), List.getElem_idxOf (idx_lt h)]
theorem idx_inj {l : List Nat} {o p : Nat} (ho : o ∈ l) (hp : p ∈ l) (e : l.idxOf o = l.idxOf p) : o = p := by
  have h1 := idx_get ho
  rw [e, idx_get hp] at h1
  exact (Option.some.inj h1).symm
theorem row_nodup (l : List Nat) (i m : Nat) : (dayRow l i m).Nodup := by
  unfold dayRow
  have asc := asc_lotOf (m &&& maskOf l)
  have hin : ∀ o ∈ lotOf (m &&& maskOf l), o ∈ l := fun o ho => by
    rw [mem_lotOf, Nat.testBit_and, Bool.and_eq_true, bit_maskOf, decide_eq_true_eq] at ho
    exact ho.2
  refine List.pairwise_map.mpr (asc.imp_of_mem fun {a b} ha hb h e => ?_)
  have := idx_inj (hin a ha) (hin b hb) (Prod.mk.inj e).2
  omega
theorem day_nodup (l f : List Nat) : ∀ k, (dayNs l f k).Nodup := by
  intro k
  induction k with
  | zero => exact .nil
  | succ k ih =>
    have e : dayNs l f (k + 1) = dayNs l f k ++ dayRow l k (f.getD (l.getD k 0) 0) := by
      unfold dayNs
      rw [List.range_succ, List.flatMap_append, List.flatMap_cons, List.flatMap_nil, List.append_nil]
    rw [e]
    refine List.nodup_append.mpr ⟨ih, row_nodup _ _ _, fun a ha b hb e => ?_⟩
    rw [mem_day] at ha
    rw [mem_row] at hb
    obtain ⟨o, _, _, rfl⟩ := hb
    subst e
    exact absurd ha.1 (by simp)
theorem row_len {l : List Nat} (hl : l.Pairwise (· < ·)) (i m : Nat) : (dayRow l i m).length ≤ l.length := by
  unfold dayRow
  rw [List.length_map]
  have hn : (lotOf (m &&& maskOf l)).Nodup := (asc_lotOf _).imp fun {a b} h e => by omega
  have hn2 : ((lotOf (m &&& maskOf l)).map l.idxOf).Nodup := by
    refine List.pairwise_map.mpr ((asc_lotOf (m &&& maskOf l)).imp_of_mem fun {a b} ha hb h e => ?_)
    have hin : ∀ o ∈ lotOf (m &&& maskOf l), o ∈ l := fun o ho => by
      rw [mem_lotOf, Nat.testBit_and, Bool.and_eq_true, bit_maskOf, decide_eq_true_eq] at ho
      exact ho.2
    have := idx_inj (hin a ha) (hin b hb) e
    omega
  have := nodup_below (n := l.length) hn2 fun d hd => by
    obtain ⟨o, ho, rfl⟩ := List.mem_map.mp hd
    rw [mem_lotOf, Nat.testBit_and, Bool.and_eq_true, bit_maskOf, decide_eq_true_eq] at ho
    exact idx_lt ho.2
  rw [List.length_map] at this
  exact this
theorem day_len {l f : List Nat} (hl : l.Pairwise (· < ·)) : ∀ k, (dayNs l f k).length ≤ k * l.length := by
  intro k
  induction k with
  | zero => exact Nat.zero_le _
  | succ k ih =>
    have e : dayNs l f (k + 1) = dayNs l f k ++ dayRow l k (f.getD (l.getD k 0) 0) := by
      unfold dayNs
      rw [List.range_succ, List.flatMap_append, List.flatMap_cons, List.flatMap_nil, List.append_nil]
    rw [e, List.length_append, Nat.succ_mul]
    have := row_len hl k (f.getD (l.getD k 0) 0)
    omega
theorem far_day {l f : List Nat} {n : Nat} {ns : List (Nat × Nat)} (hf : FarsOf n ns f) (hl : ∀ c ∈ l, c < n) {i j : Nat} (h : Far (dayNs l f l.length) i j) : ∃ c o, l[i]? = some c ∧ l[j]? = some o ∧ Far ns c o := by
  have one : ∀ {i j}, (i, j) ∈ dayNs l f l.length → ∃ c o, l[i]? = some c ∧ l[j]? = some o ∧ Far ns c o := fun {i j} h => by
    rw [mem_day] at h
    obtain ⟨hi, o, h1, h2, h3⟩ := h
    simp only at hi h1 h3
    subst h3
    have e1 : l[i]? = some l[i] := List.getElem?_eq_getElem hi
    generalize l[i] = c at e1
    have hc := hl c (List.mem_of_getElem? e1)
    have hcl : c < f.length := by rw [hf.len]; exact hc
    have e2 : f[c]? = some f[c] := List.getElem?_eq_getElem hcl
    generalize f[c] = m at e2
    rw [getD_some e1, getD_some e2] at h1
    exact ⟨c, o, e1, idx_get h2, (hf.bits c m e2 o).mp h1⟩
  induction h with
  | one h => exact one h
  | step h _ ih =>
    obtain ⟨c, m, h1, h2, h3⟩ := one h
    obtain ⟨m', o, h4, h5, h6⟩ := ih
    rw [h2] at h4
    cases h4
    exact ⟨c, o, h1, h5, h3.trans h6⟩
/-! ### walks within comprehensions -/
theorem lc_walk {J : It} {n : Nat} {G : Hp → Prop} {Y : Nat → Hp → V → Hp → Prop} (w : Walk J n G Y) {H0 : Hp} {Qd : Hp → Prop} {body : (Hp → Prop) → V → Hp → Prop} (Pv : Nat → Hp → Prop) (h0 : Pv 0 H0) (hG : ∀ i H, i ≤ n → Pv i H → G H)
    (hs : ∀ i x H H', i < n → Pv i H → Y i H x H' → body (Pv (i + 1)) x H') (hd : ∀ H, Pv n H → Qd H) :
    ∃ W : Nat → Nat → Hp → Prop, (∃ m, W 0 m H0) ∧ ∀ i m H, W i m H → (J.stop i H ∧ Qd H) ∨ (J.go i H ∧ ∃ Nx : Hp → Prop, (∀ H', Nx H' → ∃ m', m' < m ∧ W (i + 1) m' H') ∧ ∀ x H', J.yld i H x H' → body Nx x H') := by
  refine ⟨fun i m H => m = n - i ∧ i ≤ n ∧ Pv i H, ⟨n, by simp, Nat.zero_le _, h0⟩, ?_⟩
  rintro i m H ⟨rfl, hi, p⟩
  have q := hG i H hi p
  by_cases hlt : i < n
  · refine .inr ⟨w.goes i H hlt q, Pv (i + 1), fun H' p' => ⟨n - (i + 1), by omega, rfl, hlt, p'⟩, fun x H' y => hs i x H H' hlt p (w.yields i H x H' hlt q y)⟩
  · have e : i = n := by omega
    subst e
    exact .inl ⟨w.stops H q, hd H p⟩
section
variable {P : Program} {w : World} {K : PySem.W.Frag} {mg : Str → Option Value} {base : Heap}
/-- a list of pairs -/
def PrL (H : Hp) (D : Addr) (ns : List (Nat × Nat)) : Prop := ∃ rs : List Addr, H D = some (.lst (rs.map V.ref)) ∧ rs.length = ns.length ∧ ∀ (i : Nat) (r : Addr) (p : Nat × Nat), rs[i]? = some r → ns[i]? = some p → H r = some (.tup [nV p.1, nV p.2])
theorem PrL.nil {H : Hp} {D : Addr} (h : H D = some (.lst [])) : PrL H D [] := ⟨[], h, rfl, fun i r p e _ => by cases e⟩
theorem seqT_putL {H : Hp} {p a : Addr} {o : HO} {zs xs : List V} (hp : H p = some (.lst zs)) (h : SqT K H a xs) : SqT K (upd H p o) a xs := by
  unfold SqT at *
  rcases h with (h | ⟨u, h⟩) | h
  · exact .inl (.inl (by rw [upd_ne (ne_of h hp (by intro z; cases z))]; exact h))
  · exact .inl (.inr ⟨u, by rw [upd_ne (ne_of h hp (by intro z; cases z))]; exact h⟩)
  · exact .inr h
theorem PrL.keep {H H' : Hp} {D : Addr} {ns : List (Nat × Nat)} (h : PrL H D ns) (hD : ∀ xs, H D = some (.lst xs) → H' D = some (.lst xs)) (s : ∀ r xs, H r = some (.tup xs) → H' r = some (.tup xs)) : PrL H' D ns := by
  obtain ⟨rs, h1, h2, h3⟩ := h
  exact ⟨rs, hD _ h1, h2, fun i r p x y => s r _ (h3 i r p x y)⟩
theorem PrL.same {H H' : Hp} {D : Addr} {ns : List (Nat × Nat)} (h : PrL H D ns) (s : Same H H') : PrL H' D ns := h.keep (fun _ e => s _ _ e) fun _ _ e => s _ _ e
theorem PrL.snoc {H : Hp} {D T : Addr} {ns : List (Nat × Nat)} {i j : Nat} (h : PrL H D ns) (hl : ns.length < 2000000) (hT : H T = some (.tup [nV i, nV j])) :
    ∃ acc, H D = some (.lst acc) ∧ acc.length < sizeLine ∧ PrL (upd H D (.lst (acc ++ [.ref T]))) D (ns ++ [(i, j)]) := by
  obtain ⟨rs, h1, h2, h3⟩ := h
  have keep : ∀ {r : Addr} {xs : List V} {o : HO}, H r = some (.tup xs) → upd H D o r = some (.tup xs) := fun {r xs o} e => by
    rw [upd_ne (ne_of e h1 (by intro z; cases z))]
    exact e
  refine ⟨_, h1, by rw [List.length_map, sizeLine_eq]; omega, rs ++ [T], by rw [upd_same, List.map_append]; rfl, by rw [List.length_append, List.length_append, h2]; rfl, fun k r p x y => ?_⟩
  by_cases hk : k < rs.length
  · rw [List.getElem?_append_left hk] at x
    rw [List.getElem?_append_left (by omega)] at y
    exact keep (h3 k r p x y)
  · have e : k = rs.length := by
      have := (List.getElem?_eq_some_iff.mp x).1
      rw [List.length_append] at this
      have : k < rs.length + 1 := this
      omega
    subst e
    rw [List.getElem?_append_right (Nat.le_refl _), Nat.sub_self] at x
    rw [h2, List.getElem?_append_right (Nat.le_refl _), Nat.sub_self] at y
    have x' : T = r := Option.some.inj x
    have y' : (i, j) = p := Option.some.inj y
    subst x'
    subst y'
    exact keep hT
/-- two of them, the one behind the other -/
theorem PrL.cat {H : Hp} {D D2 : Addr} {ns ms : List (Nat × Nat)} (h : PrL H D ns) (h2 : PrL H D2 ms) (hl : ns.length + ms.length < 2000000) :
    ∃ xs ys, H D = some (.lst xs) ∧ H D2 = some (.lst ys) ∧ xs.length + ys.length ≤ sizeLine ∧ PrL (upd H D (.lst (xs ++ ys))) D (ns ++ ms) := by
  obtain ⟨rs, a1, a2, a3⟩ := h
  obtain ⟨ts, b1, b2, b3⟩ := h2
  have keep : ∀ {r : Addr} {xs : List V} {o : HO}, H r = some (.tup xs) → upd H D o r = some (.tup xs) := fun {r xs o} e => by
    rw [upd_ne (ne_of e a1 (by intro z; cases z))]
    exact e
  refine ⟨_, _, a1, b1, by rw [List.length_map, List.length_map, sizeLine_eq]; omega, rs ++ ts, by rw [upd_same, List.map_append], by rw [List.length_append, List.length_append, a2, b2], fun k r p x y => ?_⟩
  by_cases hk : k < rs.length
  · rw [List.getElem?_append_left hk] at x
    rw [List.getElem?_append_left (by omega)] at y
    exact keep (a3 k r p x y)
  · rw [List.getElem?_append_right (by omega)] at x
    rw [List.getElem?_append_right (by omega)] at y
    rw [← a2] at y
    exact keep (b3 _ r p x y)
/-- as a tuple -/
theorem PrL.tup {H : Hp} {D t : Addr} {ns : List (Nat × Nat)} (h : PrL H D ns) : ∃ rs : List Addr, H D = some (.lst (rs.map V.ref)) ∧ ∀ H', Same H H' → H' t = some (.tup (rs.map V.ref)) → PairsAt K H' t ns := by
  obtain ⟨rs, h1, h2, h3⟩ := h
  exact ⟨rs, h1, fun H' s e => ⟨rs, .inl (.inl e), h2, fun i r p x y => .inl (.inl (s _ _ (h3 i r p x y)))⟩⟩
end
end Rip

/-! The law's is_int, deep. -/
namespace Rip
open PySem PySem.Spec PyProof.Rows L2
def inR (a b : Int) : V → Bool
  | .int i => decide (a ≤ i) && decide (i ≤ b)
  | _ => false
theorem inR_below (n : Nat) (v : V) : inR 0 ((n : Int) - 1) v = isBelow n v := by
  cases v with
  | int i =>
    show (decide ((0 : Int) ≤ i) && decide (i ≤ (n : Int) - 1)) = decide ((0 : Int) ≤ i ∧ i < (n : Int))
    rw [Bool.decide_and]
    congr 1
    exact decide_eq_decide.mpr ⟨fun h => by omega, fun h => by omega⟩
  | _ => rfl
section
variable {P : Program} {w : World} {K : PySem.W.Frag} {mg : Str → Option Value} {base : Heap}
abbrev s_isint : Stmt := top 35
abbrev s_deep : Stmt := top 36
def spIsInt (K : PySem.W.Frag) : Sp := fun vs H Q _ => ∃ (v : V) (a b : Int), vs = [v, .int a, .int b] ∧ Ob K H v ∧ Q (.bl (inR a b v)) H
abbrev scIiN : List Str := ["_law_thing", "_law_least", "_law_most"]
theorem scIi : FnScope scIiN ["_law_thing", "_law_least", "_law_most"] (defScope s_isint) := ⟨rfl, rfl, rfl, by decide +kernel, rfl, by decide +kernel, by decide +kernel⟩
theorem ok_isint {f : Addr} {fd : FuncData} (F : Fun K "_law_is_int" "_law_is_int" s_isint f fd) (B : Blt mg) : FnOk P w K mg base CX0 1 f fd ["_law_thing", "_law_least", "_law_most"] (spIsInt K) := by
  refine F.ok scIi (fun vs H Q E h => ?_) (fun cdv A outer s H vs Q E hr h => ?_)
  · obtain ⟨v, a, b, rfl, _⟩ := h
    rfl
  · obtain ⟨v, a, b, rfl, ⟨t, ty, k1, k2⟩, q⟩ := h
    refine ⟨_, pss_one (ps_ret (pe_and (pe_callB call_isi (by rfl) B.isinstance PyProof.Rows.boot_isinstance (pa_cons (pv 0) (pa_cons (pe_bltn (v := .ty "int") (by rfl) B.int PyProof.Rows.boot_int rfl) pa_nil)))
      (pe_and (pe_not (pe_callB call_isi (by rfl) B.isinstance PyProof.Rows.boot_isinstance (pa_cons (pv 0) (pa_cons (pe_bltn (v := .ty "bool") (by rfl) B.bool PyProof.Rows.boot_bool rfl) pa_nil))))
      (pe_one (pe_chain op_le op_le (pv 1) (pv 0) (pv 2)))))), ?_⟩
    refine ⟨_, rfl, v, _, t, _, isIB v, rfl, .ty "int", ty, k1, _, rfl, ?_⟩
    cases v with
    | int i =>
      refine iteT ⟨_, rfl, _, _, t, _, _, rfl, .ty "bool", ty, k2, _, rfl, _, rfl, iteT ⟨_, rfl, _, rfl, _, _, rfl, rfl, _, rfl, ?_⟩⟩
      have e : inR a b (.int i) = (decide (a ≤ i) && decide (i ≤ b)) := rfl
      rw [e] at q
      refine ite_ok (fun h => ?_) fun h => ?_
      · rw [decide_eq_true h, Bool.true_and] at q
        exact ⟨_, rfl, _, _, rfl, rfl, q⟩
      · rw [decide_eq_false h, Bool.false_and] at q
        exact q
    | bl x => exact iteT ⟨_, rfl, _, _, t, _, _, rfl, .ty "bool", ty, k2, _, rfl, _, rfl, iteF q⟩
    | non => exact iteF q
    | str x => exact iteF q
    | byt x => exact iteF q
    | flt x => exact iteF q
    | ref x => exact iteF q
    | ty x => exact iteF q
def spDeep : Sp := fun vs H Q _ => vs = [] ∧ ∀ (l : Addr) (xs : List V) (H' : Hp), Same H H' → H l = none → H' l = some (.lst xs) → Q (.ref l) H'
abbrev scDpN : List Str := ["_law_thing", "_law_turn"]
theorem scDp : FnScope scDpN [] (defScope s_deep) := ⟨rfl, rfl, rfl, by decide +kernel, rfl, by decide +kernel, by decide +kernel⟩
theorem ok_deep {f : Addr} {fd : FuncData} (F : Fun K "_law_deep" "_law_deep" s_deep f fd) (B : Blt mg) : FnOk P w K mg base CX0 1 f fd [] spDeep := by
  refine F.ok scDp (fun vs H Q E h => ?_) (fun cdv A outer s H vs Q E hr h => ?_)
  · obtain ⟨rfl, _⟩ := h
    rfl
  · obtain ⟨rfl, q⟩ := h
    refine ⟨_,
      (pss_cons (ps_set (i := 0) scDp.nd rfl (.inl rfl) (pe_tup pa_nil))
      (pss_cons (ps_for PassesOwn.never rfl (pi_range1 rfl B.range (pa_cons pe_int pa_nil)) (pg_name (i := 1) scDp.nd rfl (.inl rfl))
        (pss_one (ps_set (i := 0) scDp.nd rfl (.inl rfl) (pe_lst (pa_cons (pe_tup (pa_cons (pv 0) pa_nil)) pa_nil)))))
      (pss_one (ps_ret (pv 0))))), ?_⟩
    refine ⟨Nat.zero_le _, fun t nt => ?_⟩
    have one : 1 ≤ sizeLine := by rw [sizeLine_eq]; decide
    refine ⟨11, rfl, by decide, by decide, for_range (n := 11) (fun i σ H2 => ∃ (v : V) (z : Option V), σ = [some v, z] ∧ Same H H2 ∧ (i = 0 ∨ ∃ (l : Addr) (xs : List V), v = .ref l ∧ H l = none ∧ H2 l = some (.lst xs)))
      ⟨.ref t, none, rfl, same_upd nt, .inl rfl⟩ ?_ ?_⟩
    · rintro i σ H2 hi ⟨v, z, rfl, s2, tv⟩
      refine ⟨_, rfl, one, fun p np => ⟨one, fun l nl => ?_⟩⟩
      have np0 : H p = none := s2.free np
      have nl0 : H l = none := (same_put s2 np0).free nl
      exact ⟨_, _, rfl, s2.trans ((same_upd np).trans (same_upd nl)), .inr ⟨l, _, rfl, nl0, upd_same⟩⟩
    · rintro σ H2 ⟨v, z, rfl, s2, tv⟩
      rcases tv with h | ⟨l, xs, rfl, nl, el⟩
      · exact absurd h (by decide)
      · exact ⟨_, rfl, q l xs H2 s2 nl el⟩
end
end Rip

/-! The law's needs, parts. -/
namespace Rip
open PySem PySem.Spec PyProof.Rows L2
/-! ### pairs sorted -/
def pr (H : Hp) (r : Addr) : Nat × Nat := match H r with
  | some (.tup [.int i, .int j]) => (i.toNat, j.toNat)
  | _ => (0, 0)
def backR : V → Addr
  | .ref a => a
  | _ => 0
theorem pr_at {H : Hp} {r : Addr} {p : Nat × Nat} (h : H r = some (.tup [nV p.1, nV p.2])) : pr H r = p := by
  unfold pr
  rw [h]
  obtain ⟨i, j⟩ := p
  rfl
theorem PrL.map {H : Hp} {rs : List Addr} {ns : List (Nat × Nat)} (h2 : rs.length = ns.length) (h3 : ∀ (i : Nat) (r : Addr) (p : Nat × Nat), rs[i]? = some r → ns[i]? = some p → H r = some (.tup [nV p.1, nV p.2])) : ns = rs.map (pr H) := by
  refine List.ext_getElem (by rw [List.length_map, h2]) fun i h4 h5 => ?_
  rw [List.getElem_map]
  have h6 : i < rs.length := by omega
  exact (pr_at (h3 i rs[i] ns[i] (List.getElem?_eq_getElem h6) (List.getElem?_eq_getElem h4))).symm
/-- a list of pairs, sorted and made a tuple -/
theorem sorted_pairs {K : PySem.W.Frag} {H : Hp} {D : Addr} {ns : List (Nat × Nat)} {Q : VK} (h : PrL H D ns) (hn : ns.Nodup)
    (q : ∀ (p : Addr) (ys : List V), H p = none → (∀ (t : Addr) (H' : Hp), Same (upd H p (.lst ys)) H' → H' t = some (.tup ys) → ∃ ms : List (Nat × Nat), ms.Perm ns ∧ ms.Pairwise ltP ∧ PairsAt K H' t ms) → Q (.ref p) (upd H p (.lst ys))) : rSortedPO K [.ref D] H Q := by
  obtain ⟨rs, h1, h2, h3⟩ := h
  have em := PrL.map h2 h3
  refine ⟨D, rs.map V.ref, fun v => (((pr H (backR v)).1 : Int), ((pr H (backR v)).2 : Int)), rfl, .inl (.inl h1), fun x hx => ?_, fun ys p st sb np => q p ys np fun t H' s et => ?_⟩
  · obtain ⟨r, hr, rfl⟩ := List.mem_map.mp hx
    obtain ⟨i, hi, rfl⟩ := List.getElem_of_mem hr
    have hi2 : i < ns.length := by omega
    have z := h3 i rs[i] ns[i] (List.getElem?_eq_getElem hi) (List.getElem?_eq_getElem hi2)
    refine ⟨rs[i], rfl, ?_⟩
    show H rs[i] = some (.tup [.int ((pr H rs[i]).1 : Int), .int ((pr H rs[i]).2 : Int)])
    rw [pr_at z]
    exact z
  · have hm := sb.perm
    have href : ∀ y ∈ ys, y = V.ref (backR y) := fun y hy => by
      obtain ⟨r, _, rfl⟩ := List.mem_map.mp (hm.mem_iff.mp hy)
      rfl
    have ey : (ys.map backR).map V.ref = ys := by
      rw [List.map_map]
      exact (List.map_congr_left fun y hy => (href y hy).symm).trans (List.map_id ys)
    have pm : (ys.map backR).Perm rs := by
      have z := hm.map backR
      rw [List.map_map] at z
      have e : rs.map (backR ∘ V.ref) = rs := List.map_id rs
      rw [e] at z
      exact z
    have pn : ((ys.map backR).map (pr H)).Perm ns := by
      rw [em]
      exact pm.map _
    refine ⟨(ys.map backR).map (pr H), pn, ?_, ys.map backR, .inl (.inl (by rw [ey]; exact et)), (List.length_map _).symm, fun i r p x y => ?_⟩
    · have nd := pn.nodup_iff.mpr hn
      rw [List.map_map]
      rw [List.map_map] at nd
      refine List.pairwise_map.mpr ?_
      have nd' := List.pairwise_map.mp nd
      refine (List.pairwise_iff_forall_sublist.mpr ?_)
      intro a b sub
      have z1 := (List.pairwise_iff_forall_sublist.mp st) sub
      have z2 := (List.pairwise_iff_forall_sublist.mp nd') sub
      have z3 : ¬ (((pr H (backR b)).1 : Int) < ((pr H (backR a)).1 : Int) ∨ (((pr H (backR b)).1 : Int) = ((pr H (backR a)).1 : Int) ∧ ((pr H (backR b)).2 : Int) < ((pr H (backR a)).2 : Int))) := SrtO.lexB_no.mp z1
      show ltP (pr H (backR a)) (pr H (backR b))
      simp only [Function.comp] at z2
      have z4 : ¬ ((pr H (backR a)).1 = (pr H (backR b)).1 ∧ (pr H (backR a)).2 = (pr H (backR b)).2) := fun ⟨u, v⟩ => z2 (Prod.ext u v)
      unfold ltP
      omega
    · rw [List.getElem?_map, x] at y
      have y' : pr H r = p := Option.some.inj y
      subst y'
      have hr : r ∈ rs := pm.mem_iff.mp (List.mem_of_getElem? x)
      obtain ⟨j, hj, rfl⟩ := List.getElem_of_mem hr
      have hj2 : j < ns.length := by omega
      have z := h3 j rs[j] ns[j] (List.getElem?_eq_getElem hj) (List.getElem?_eq_getElem hj2)
      rw [← pr_at z] at z
      exact .inl (.inl (s _ _ (same_upd np _ _ z)))
/-! ### needs along an order make no ring -/
def Along (o : List Nat) (k : Nat) (z : Nat × Nat) : Prop := ∃ a b, b < a ∧ a < k ∧ o[a]? = some z.1 ∧ o[b]? = some z.2
theorem along_far {o : List Nat} {k : Nat} {ns : List (Nat × Nat)} (ho : o.Nodup) (h : ∀ z ∈ ns, Along o k z) {x y : Nat} (f : Far ns x y) : ∃ a b : Nat, b < a ∧ o[a]? = some x ∧ o[b]? = some y := by
  induction f with
  | one e =>
    obtain ⟨a, b, h1, _, h2, h3⟩ := h _ e
    exact ⟨a, b, h1, h2, h3⟩
  | step e _ ih =>
    obtain ⟨a, b, h1, _, h2, h3⟩ := h _ e
    obtain ⟨c, d, g1, g2, g3⟩ := ih
    have : b = c := by
      obtain ⟨l1, e1⟩ := List.getElem?_eq_some_iff.mp h3
      obtain ⟨l2, e2⟩ := List.getElem?_eq_some_iff.mp g2
      exact (List.getElem_inj ho).mp (e1.trans e2.symm)
    exact ⟨a, d, by omega, h2, g3⟩
theorem along_no {o : List Nat} {k : Nat} {ns : List (Nat × Nat)} (ho : o.Nodup) (h : ∀ z ∈ ns, Along o k z) (c : Nat) : ¬ Far ns c c := fun f => by
  obtain ⟨a, b, h1, h2, h3⟩ := along_far ho h f
  obtain ⟨l1, e1⟩ := List.getElem?_eq_some_iff.mp h2
  obtain ⟨l2, e2⟩ := List.getElem?_eq_some_iff.mp h3
  have : a = b := (List.getElem_inj ho).mp (e1.trans e2.symm)
  omega
theorem BagAt.put {H : Hp} {b g p : Addr} {o : HO} (h : BagAt H b g) (n1 : p ≠ b) (n2 : p ≠ g) : BagAt (upd H p o) b g := by
  obtain ⟨s, c, al, hb, ha⟩ := h.ob
  obtain ⟨gs, hg⟩ := h.gr
  exact ⟨⟨s, c, al, by rw [upd_ne n1.symm]; exact hb, ha⟩, gs, by rw [upd_ne n2.symm]; exact hg⟩
theorem BagAt.nb {H : Hp} {b g p : Addr} (h : BagAt H b g) (n : H p = none) : p ≠ b ∧ p ≠ g := by
  obtain ⟨s, c, al, hb, ha⟩ := h.ob
  obtain ⟨gs, hg⟩ := h.gr
  exact ⟨(ne_of_none hb n).symm, (ne_of_none hg n).symm⟩
theorem SameB.put {H H' : Hp} {b g p : Addr} {o : HO} (s : SameB b g H H') (n : H p = none) : SameB b g H (upd H' p o) := fun c u e h1 h2 => by
  rw [upd_ne (ne_of_none e n)]
  exact s c u e h1 h2
theorem SameB.free {H H' : Hp} {b g p : Addr} (B : BagAt H b g) (s : SameB b g H H') (n : H' p = none) (h : p ≠ b) (h' : p ≠ g) : H p = none := by
  cases e : H p with
  | none => rfl
  | some o => rw [s p o e h h'] at n; cases n
theorem PrL.sameB {H H' : Hp} {b g D : Addr} {ns : List (Nat × Nat)} (h : PrL H D ns) (B : BagAt H b g) (n1 : D ≠ b) (n2 : D ≠ g) (s : SameB b g H H') : PrL H' D ns := by
  obtain ⟨s1, c, al, hb, ha⟩ := B.ob
  obtain ⟨gs, hg⟩ := B.gr
  exact h.keep (fun xs e => s _ _ e n1 n2) fun r xs e => s _ _ e (ne_of e hb (by intro z; cases z)) (ne_of e hg (by intro z; cases z))
theorem rgV_nat (m : Nat) : rgV 0 (m : Int) = (List.range m).map nV := by
  unfold rgV
  rw [show ((m : Int) - 0).toNat = m by omega]
  exact List.map_congr_left fun i _ => congrArg V.int (by omega)
theorem erase_perm : ∀ {l : List Nat} {i c : Nat}, l[i]? = some c → (c :: l.eraseIdx i).Perm l
  | [], _, _, h => by simp at h
  | a :: l, 0, c, h => by
    have e : a = c := by simpa using h
    subst e
    exact List.Perm.refl _
  | a :: l, i + 1, c, h => by
    have ih := erase_perm (l := l) (i := i) (c := c) (by simpa using h)
    exact (List.Perm.swap a c _).trans (ih.cons a)
theorem seq_nat {v : Int} {n : Nat} (h0 : 0 ≤ v) (h1 : v < n) : seqIndex? v n = some v.toNat := by
  unfold seqIndex?
  have h : ¬ v < 0 := by omega
  simp only [if_neg h]
  rw [if_pos (by simp [h0, h1])]
theorem erase_mapN : ∀ (l : List Nat) (j : Nat), (l.map nV).eraseIdx j = (l.eraseIdx j).map nV
  | [], j => by simp
  | a :: r, 0 => by simp
  | a :: r, j + 1 => by
    have ih := erase_mapN r j
    simp [ih]
section
variable {P : Program} {w : World} {K : PySem.W.Frag} {mg : Str → Option Value} {base : Heap}
abbrev s_needs : Stmt := top 38
abbrev s_parts : Stmt := top 39
def spNeeds (K : PySem.W.Frag) : Sp := fun vs H Q _ => ∃ (b g : Addr) (m r : Nat), vs = [.ref b, nV m, nV r] ∧ BagAt H b g ∧ m ≤ 60 ∧ 0 < r ∧ r < 1000 ∧
  ∀ (a : Addr) (ns : List (Nat × Nat)) (H' : Hp), BagAt H' b g → SameB b g H H' → H a = none → PairsAt K H' a ns → ns.Pairwise ltP → (∀ z ∈ ns, z.1 < m ∧ z.2 < m ∧ z.1 ≠ z.2) → ns.length ≤ 4000 → (∀ c, ¬ Far ns c c) → Q (.ref a) H'
abbrev scNsN : List Str := ["_law_bag_here", "_law_many", "_law_rare", "_law_order", "_law_left", "_law_turn", "_law_made", "_law_at", "_law_other"]
theorem scNs : FnScope scNsN ["_law_bag_here", "_law_many", "_law_rare"] (defScope s_needs) := ⟨rfl, rfl, rfl, by decide +kernel, rfl, by decide +kernel, by decide +kernel⟩
theorem ok_needs {f fP : Addr} {fd fdP : FuncData} (F : Fun K "_law_needs" "_law_needs" s_needs f fd) (B : Blt mg) (hsr : mg "sorted" = none) (FP : Fun K "_law_pick" "_law_pick" sPick fP fdP) (bP : Binds K fdP ["_law_bag_here", "_law_many"] []) (gP : mg "_law_pick" = some (.ref fP)) :
    FnOk P w K mg base CX0 2 f fd ["_law_bag_here", "_law_many", "_law_rare"] (spNeeds K) := by
  have GP : FnOk P w K mg base CX0 1 fP fdP ["_law_bag_here", "_law_many"] spPick := ok_pick FP B
  refine F.ok scNs (fun vs H Q E h => ?_) (fun cdv A outer s H vs Q E hr h => ?_)
  · obtain ⟨b, g, m, r, rfl, _⟩ := h
    rfl
  · obtain ⟨b, g, m, r, rfl, BA, hm, hr0, hr1, q⟩ := h
    refine ⟨_,
      (pss_cons (ps_asg (pe_tup (pa_cons (pe_lst pa_nil) (pa_cons (pe_listRg rfl (by rfl) B.list (prg_1 (by rfl) B.range (pv 1))) pa_nil))) (pg_tup rfl (pgs_cons (pg_name (i := 3) scNs.nd rfl (.inr rfl)) (pgs_cons (pg_name (i := 4) scNs.nd rfl (.inl rfl)) pgs_nil))))
      (pss_cons (ps_for PassesOwn.never rfl (pi_range1 rfl B.range (pa_cons (pv 1) pa_nil)) (pg_name (i := 5) scNs.nd rfl (.inl rfl))
        (pss_one (ps_expr (pe_bm PySem.F.plainAttrs_list PySem.F.slot_list_append PySem.F.type_list_append mt_append (pv 3) (pa_cons (pe_bm PySem.F.plainAttrs_list PySem.F.slot_list_pop PySem.F.type_list_pop mt_popAt (pv 4) (pa_cons (pe_call GP hr (by rfl) gP FP.kp bP .nil pass0 (pa_cons (pv 0) (pa_cons (pe_callB call_len_seq (by rfl) B.len PySem.boot_len (pa_cons (pv 4) pa_nil)) pa_nil))) pa_nil)) pa_nil)))))
      (pss_cons (ps_set (i := 6) scNs.nd rfl (.inl rfl) (pe_lst pa_nil))
      (pss_cons (ps_for PassesOwn.never rfl (pi_range1 rfl B.range (pa_cons (pv 1) pa_nil)) (pg_name (i := 7) scNs.nd rfl (.inr rfl))
        (pss_one (ps_expr (pe_bm PySem.F.plainAttrs_list PySem.F.slot_list_extend PySem.F.type_list_extend mt_extend (pv 6) (pa_cons (pe_lc (own := [("_law_other", 8)]) (g := (gName 8)) (tt := tTest (tOp rEq (tCall spPick [] E0 (tCons (tVar 0) (tCons (tVar 2) tNil))) (tC (.int 0)))) (te := tTup (tCons (tOp (rIxL K) (tVar 3) (tVar 7)) (tCons (tVar 8) tNil))) rfl scNs.nd (pi_list (pe_slice sl_list (pv 3) po_none (po_some (pv 7)))) (blkOk_by (own := [("_law_other", 8)]) (N := scNsN) (sc := defScope s_needs) (by decide +kernel)) (fun _ _ _ _ _ => (pg_name (i := 8) scNs.nd rfl (.inl rfl))) (fun _ _ _ _ _ => (pts_one (pt_cmpR op_eq (pe_call GP hr (by rfl) gP FP.kp bP .nil pass0 (pa_cons (pv 0) (pa_cons (pv 2) pa_nil))) pe_int (nomark _)))) (fun _ _ _ _ _ => (pe_tup (pa_cons (pe_ix ix_list (pv 3) (pv 7) (fun _ _ => rfl)) (pa_cons (pv 8) pa_nil))))) pa_nil)))))
      (pss_one (ps_ret (pe_tupleOf (by rfl) B.tuple (pe_callB cr_sortedPO (by rfl) hsr PyProof.Rows.boot_sorted (pa_cons (pv 6) pa_nil))))))))), ?_⟩
    have two : 2 ≤ sizeLine := by rw [sizeLine_eq]; decide
    refine ⟨Nat.zero_le _, fun lo nlo => ⟨_, rfl, (m : Int), rfl, RgOk.of_le (by omega) (by omega) (by omega) (by omega), fun le nle => ⟨two, fun tp ntp => ?_⟩⟩⟩
    refine ⟨tp, _, rfl, .inl (.inl upd_same), rfl, _, _, rfl, _, [], rfl, rfl, ?_⟩
    rw [rgV_nat] at ntp ⊢
    have l12 : lo ≠ le := ne_of_none upd_same nle
    have hb0 := BA.nb nlo
    have nle0 : H le = none := (same_upd nlo).free nle
    have hb1 := BA.nb nle0
    have s1 : Same H (upd (upd H lo (.lst [])) le (.lst ((List.range m).map nV))) := (same_upd nlo).trans (same_upd nle)
    have ntp0 : H tp = none := s1.free ntp
    have t1 : lo ≠ tp := ne_of_none (by rw [upd_ne l12, upd_same]) ntp
    have t2 : le ≠ tp := ne_of_none upd_same ntp
    have s2 := s1.trans (same_upd (o := .tup [.ref lo, .ref le]) ntp)
    have e1 : upd (upd (upd H lo (.lst [])) le (.lst ((List.range m).map nV))) tp (.tup [.ref lo, .ref le]) lo = some (.lst []) := by rw [upd_ne t1, upd_ne l12, upd_same]
    have e2 : upd (upd (upd H lo (.lst [])) le (.lst ((List.range m).map nV))) tp (.tup [.ref lo, .ref le]) le = some (.lst ((List.range m).map nV)) := by rw [upd_ne t2, upd_same]
    generalize upd (upd (upd H lo (.lst [])) le (.lst ((List.range m).map nV))) tp (.tup [.ref lo, .ref le]) = H1 at s2 e1 e2 ⊢
    refine st_eq (σ' := [some (.ref b), some (nV m), some (nV r), some (.ref lo), some (.ref le), none, none, none, none]) rfl ?_
    -- the order
    refine ⟨_, rfl, (m : Int), rfl, by omega, by omega, for_range (n := m) (fun i σ H2 => ∃ (od lf : List Nat) (z : Option V), σ = [some (.ref b), some (nV m), some (nV r), some (.ref lo), some (.ref le), z, none, none, none] ∧ BagAt H2 b g ∧ SameB b g H H2 ∧
        H2 lo = some (.lst (od.map nV)) ∧ H2 le = some (.lst (lf.map nV)) ∧ od.length = i ∧ (od ++ lf).Perm (List.range m))
      ⟨[], List.range m, none, rfl, BA.same s2, SameB.of s2, e1, e2, rfl, List.Perm.refl _⟩ ?_ ?_⟩
    · rintro i σ H2 hi ⟨od, lf, z, rfl, BA2, s3, eo, el, hl, hp⟩
      have hln : od.length + lf.length = m := by
        have := hp.length_eq
        rw [List.length_append, List.length_range] at this
        exact this
      refine ⟨_, rfl, .inl ⟨rfl, _, .inl (.inl eo)⟩, _, rfl, .inl ⟨rfl, _, .inl (.inl el)⟩, _, rfl, _, rfl, le, _, rfl, .inl (.inl (.inl el)), b, g, _, rfl, BA2, by rw [List.length_map]; omega, by rw [List.length_map]; omega, fun v H3 v0 v1 BA3 sb => ?_⟩
      rw [List.length_map] at v1
      have hv : v.toNat < lf.length := by omega
      have ev : lf[v.toNat]? = some lf[v.toNat] := List.getElem?_eq_getElem hv
      generalize lf[v.toNat] = c at ev
      have el3 := sb _ _ el hb1.1 hb1.2
      have eo3 := sb _ _ eo hb0.1 hb0.2
      refine ⟨le, _, v, v.toNat, nV c, rfl, rfl, el3, by omega, by omega, ?_, map_get ev, lo, _, _, rfl, rfl, by rw [upd_ne l12]; exact eo3, by rw [List.length_map, sizeLine_eq]; omega, od ++ [c], lf.eraseIdx v.toNat, _, rfl, ?_, ?_, ?_, ?_, ?_, ?_⟩
      · rw [List.length_map]
        exact seq_nat v0 v1
      · exact (BA3.put hb1.1 hb1.2).put hb0.1 hb0.2
      · exact ((s3.trans sb).put nle0).put nlo
      · rw [upd_same, List.map_append]
        rfl
      · rw [upd_ne l12.symm, upd_same, erase_mapN]
      · rw [List.length_append, hl]
        rfl
      · have z := erase_perm ev
        refine List.Perm.trans ?_ hp
        rw [List.append_assoc]
        exact z.append_left od
    · rintro σ H2 ⟨od, lf, z, rfl, BA2, s3, eo, el, hl, hp⟩
      have hln : lf = [] := by
        have := hp.length_eq
        rw [List.length_append, List.length_range] at this
        exact List.length_eq_zero_iff.mp (by omega)
      subst hln
      rw [List.append_nil] at hp
      have ond : od.Nodup := hp.nodup_iff.mpr List.nodup_range
      have oin : ∀ c ∈ od, c < m := fun c hc => List.mem_range.mp (hp.mem_iff.mp hc)
      refine ⟨Nat.zero_le _, fun mo nmo => ?_⟩
      have hbm := BA2.nb nmo
      have nmo0 : H mo = none := SameB.free BA s3 nmo hbm.1 hbm.2
      have l13 : lo ≠ mo := ne_of_none eo nmo
      dsimp only [gName]
      refine st_eq (σ' := [some (.ref b), some (nV m), some (nV r), some (.ref lo), some (.ref le), z, some (.ref mo), none, none]) rfl ?_
      refine ⟨_, rfl, (m : Int), rfl, by omega, by omega, for_range (n := m) (fun i σ H3 => ∃ (ms : List (Nat × Nat)) (z7 : Option V), σ = [some (.ref b), some (nV m), some (nV r), some (.ref lo), some (.ref le), z, some (.ref mo), z7, none] ∧ BagAt H3 b g ∧ SameB b g H H3 ∧
          H3 lo = some (.lst (od.map nV)) ∧ PrL H3 mo ms ∧ ms.Nodup ∧ (∀ y ∈ ms, Along od i y) ∧ ms.length ≤ i * m)
        ⟨[], none, rfl, BA2.put hbm.1 hbm.2, s3.put nmo0, by rw [upd_ne l13]; exact eo, PrL.nil upd_same, .nil, fun y h => (by cases h), Nat.zero_le _⟩ ?_ ?_⟩
      · rintro i σ H3 hi ⟨ms, z7, rfl, BA3, s4, eo3, pm, nd, al, ml⟩
        have eoi : od[i]? = some od[i] := List.getElem?_eq_getElem (by omega)
        generalize od[i] = ci at eoi
        have z0 : V.int (0 + (i : Int)) = nV i := congrArg V.int (by omega)
        rw [z0]
        refine ⟨_, rfl, .inl ⟨rfl, ?_⟩, ?_⟩
        · obtain ⟨rs, h1, _⟩ := pm
          exact ⟨_, .inl (.inl h1)⟩
        refine ⟨_, rfl, _, rfl, (i : Int), rfl, lo, _, rfl, .inl (.inl eo3), fun sc nsc => ?_⟩
        have ec : cutV (od.map nV) none (some ((i : Int))) = (od.take i).map nV := by rw [cut_lo _ (by rw [List.length_map]; omega), List.map_take]
        rw [ec]
        have hbs := BA3.nb nsc
        have s5 : Same H3 (upd H3 sc (.lst ((od.take i).map nV))) := same_upd nsc
        have esc : upd H3 sc (.lst ((od.take i).map nV)) sc = some (.lst ((od.take i).map nV)) := upd_same
        have BA4 := BA3.same s5
        have pm4 := pm.same s5
        generalize upd H3 sc (.lst ((od.take i).map nV)) = H4 at s5 esc BA4 pm4 ⊢
        have eo4 := s5 _ _ eo3
        refine ⟨sc, rfl, ⟨_, .inl (.inl esc)⟩, fun D nD => ?_⟩
        have hbd := BA4.nb nD
        refine lc_list (K := K) (a := sc) (xs := (od.take i).map nV) (fun j H5 => BagAt H5 b g ∧ SameB b g H4 H5 ∧ ∃ ts : List (Nat × Nat), PrL H5 D ts ∧ ts.Nodup ∧ ts.length ≤ j ∧ ∀ y ∈ ts, od[i]? = some y.1 ∧ ∃ t, t < j ∧ od[t]? = some y.2)
          ⟨BA4.put hbd.1 hbd.2, (SameB.refl b g H4).put nD, [], PrL.nil upd_same, .nil, Nat.zero_le _, fun y h => (by cases h)⟩ (fun j H5 _ y => .inl (.inl (y.2.1 _ _ esc hbs.1 hbs.2))) ?_ ?_
        · rintro j x H5 ex ⟨BA5, s6, ts, pt, ndt, tl, tal⟩
          rw [List.getElem?_map] at ex
          cases eoj : (od.take i)[j]? with
          | none => rw [eoj] at ex; cases ex
          | some o =>
            rw [eoj] at ex
            cases ex
            have hj : j < i := by
              have := at_lt eoj
              rw [List.length_take] at this
              omega
            have eoj' : od[j]? = some o := by
              rw [List.getElem?_take_of_lt hj] at eoj
              exact eoj
            refine ⟨rfl, _, rfl, _, rfl, b, g, (r : Int), rfl, BA5, by omega, by omega, fun v H6 v0 v1 BA6 sb => ?_⟩
            have s7 := s6.trans sb
            have pt6 := pt.sameB BA5 hbd.1 hbd.2 sb
            refine ⟨rfl, _, rfl, ite_ok (fun hv => ?_) fun hv => ?_⟩
            · have eo6 := s7 _ _ eo4 hb0.1 hb0.2
              refine ⟨_, rfl, _, rfl, lo, _, _, nV ci, rfl, rfl, .inl (.inl eo6), at_of (j := i) rfl (map_get eoi), _, rfl, two, fun T nT => ?_⟩
              have nbT := BA6.nb nT
              have pt7 := pt6.same (same_upd (o := .tup [nV ci, nV o]) nT)
              obtain ⟨acc, a1, a2, a3⟩ := pt7.snoc (T := T) (i := ci) (j := o) (by omega) upd_same
              refine ⟨acc, a1, a2, (BA6.put nbT.1 nbT.2).put hbd.1 hbd.2, (s7.trans (SameB.of (same_upd nT))).put nD, _, a3, ?_, by rw [List.length_append]; exact Nat.succ_le_succ tl, fun y hy => ?_⟩
              · refine List.nodup_append.mpr ⟨ndt, by simp, fun y hy y2 hy2 e => ?_⟩
                rw [List.mem_singleton] at hy2
                subst hy2
                subst e
                obtain ⟨_, t, ht, et⟩ := tal _ hy
                obtain ⟨l1, g1⟩ := List.getElem?_eq_some_iff.mp et
                obtain ⟨l2, g2⟩ := List.getElem?_eq_some_iff.mp eoj'
                have : t = j := (List.getElem_inj ond).mp (g1.trans g2.symm)
                omega
              · rcases List.mem_append.mp hy with hy | hy
                · obtain ⟨y1, t, ht, y2⟩ := tal y hy
                  exact ⟨y1, t, by omega, y2⟩
                · rw [List.mem_singleton] at hy
                  subst hy
                  exact ⟨eoi, j, by omega, eoj'⟩
            · exact ⟨BA6, s7, ts, pt6, ndt, by omega, fun y hy => by obtain ⟨y1, t, ht, y2⟩ := tal y hy; exact ⟨y1, t, by omega, y2⟩⟩
        · rintro H5 ⟨BA5, s6, ts, pt, ndt, tl, tal⟩
          have lt2 : (od.take i).length = i := by
            rw [List.length_take]
            omega
          rw [List.length_map, lt2] at tl tal
          have pm5 := pm4.sameB BA4 hbm.1 hbm.2 s6
          have ml' : i * m ≤ 60 * 60 := Nat.mul_le_mul (by omega) hm
          obtain ⟨xs, ys, c1, c2, c3, c4⟩ := pm5.cat pt (by omega)
          refine ⟨mo, D, xs, ys, rfl, rfl, c1, c2, c3, ms ++ ts, some (nV i), rfl, BA5.put hbm.1 hbm.2, ((s4.trans (SameB.of s5)).trans s6).put nmo0, ?_, c4, ?_, fun y hy => ?_, ?_⟩
          · rw [upd_ne l13]
            exact s6 _ _ eo4 hb0.1 hb0.2
          · refine List.nodup_append.mpr ⟨nd, ndt, fun y hy y2 hy2 e => ?_⟩
            subst e
            obtain ⟨a1, b1, q1, q2, q3, q4⟩ := al y hy
            obtain ⟨y1, _⟩ := tal y hy2
            obtain ⟨l1, g1⟩ := List.getElem?_eq_some_iff.mp q3
            obtain ⟨l2, g2⟩ := List.getElem?_eq_some_iff.mp y1
            have : a1 = i := (List.getElem_inj ond).mp (g1.trans g2.symm)
            omega
          · rcases List.mem_append.mp hy with hy | hy
            · obtain ⟨a1, b1, q1, q2, q3, q4⟩ := al y hy
              exact ⟨a1, b1, q1, by omega, q3, q4⟩
            · obtain ⟨y1, t, ht, y2⟩ := tal y hy
              exact ⟨i, t, ht, by omega, y1, y2⟩
          · rw [List.length_append, Nat.succ_mul]
            omega
      · rintro σ H3 ⟨ms, z7, rfl, BA3, s4, eo3, pm, nd, al, ml⟩
        have hmm : m * m ≤ 60 * 60 := Nat.mul_le_mul hm hm
        refine ⟨_, rfl, ?_⟩
        show rSortedPO K [V.ref mo] H3 fun x H1 => kTup K x H1 Q
        refine sorted_pairs (K := K) pm nd fun p ys np hq => .inl ⟨p, _, rfl, .inl (.inl upd_same), fun t nt => ?_⟩
        obtain ⟨fs, f1, f2, f3⟩ := hq t _ (same_upd nt) upd_same
        have s5 := (same_upd (o := .lst ys) np).trans (same_upd (o := .tup ys) nt)
        have nb1 := BA3.nb np
        have nt3 : H3 t = none := (same_upd np).free nt
        have nb2 := BA3.nb nt3
        have al' : ∀ y ∈ fs, Along od m y := fun y hy => al y (f1.mem_iff.mp hy)
        refine q t fs _ (BA3.same s5) (s4.trans (SameB.of s5)) (SameB.free BA s4 nt3 nb2.1 nb2.2) f3 f2 (fun y hy => ?_) (by rw [f1.length_eq]; omega) (along_no ond al')
        obtain ⟨a1, b1, q1, q2, q3, q4⟩ := al' y hy
        refine ⟨oin _ (List.mem_of_getElem? q3), oin _ (List.mem_of_getElem? q4), fun e => ?_⟩
        obtain ⟨l1, g1⟩ := List.getElem?_eq_some_iff.mp q3
        obtain ⟨l2, g2⟩ := List.getElem?_eq_some_iff.mp q4
        have : a1 = b1 := (List.getElem_inj ond).mp (g1.trans (e.trans g2.symm))
        omega
end
end Rip

/-! The law's parts. -/
namespace Rip
open PySem PySem.Spec PyProof.Rows L2
theorem ite_join {c : Prop} [Decidable c] {A : Prop} {C : L2.St → Hp → Prop} {σ : L2.St} {H : Hp} (Iv : L2.St → Hp → Prop) (hA : (∀ σ H, Iv σ H → C σ H) → c → A) (hB : ¬ c → Iv σ H) (hC : ∀ σ H, Iv σ H → C σ H) : if decide c = true then A else C σ H := by
  by_cases h : c
  · rw [if_pos (decide_eq_true h)]; exact hA hC h
  · rw [if_neg (by simpa using h)]; exact hC _ _ (hB h)
section
variable {P : Program} {w : World} {K : PySem.W.Frag} {mg : Str → Option Value} {base : Heap}
def spParts (K : PySem.W.Frag) : Sp := fun vs H Q _ => ∃ (b g : Addr) (m k : Nat), vs = [.ref b, nV m, nV k] ∧ BagAt H b g ∧ m ≤ 59 ∧ 0 < k ∧ k ≤ 6 ∧
  ∀ (T mt na : Addr) (bl : List Nat) (ns : List (Nat × Nat)) (H' : Hp), BagAt H' b g → SameB b g H H' → H T = none → H' T = some (.tup [.ref mt, .ref na]) → H' mt = some (.tup (bl.map nV)) → PairsAt K H' na ns → Right bl ns → (∀ c, ¬ Far ns c c) → bl.length ≤ m → Q (.ref T) H'
abbrev scPrN : List Str := ["_law_bag_here", "_law_most", "_law_blocks", "_law_many", "_law_names", "_law_some_here", "_law_made", "_law_change"]
theorem scPr : FnScope scPrN ["_law_bag_here", "_law_most", "_law_blocks"] (defScope s_parts) := ⟨rfl, rfl, rfl, by decide +kernel, rfl, by decide +kernel, by decide +kernel⟩
theorem ok_parts {f fP fO fN : Addr} {fd fdP fdO fdN : FuncData} (F : Fun K "_law_parts" "_law_parts" s_parts f fd) (B : Blt mg) (hsr : mg "sorted" = none) (FP : Fun K "_law_pick" "_law_pick" sPick fP fdP) (bP : Binds K fdP ["_law_bag_here", "_law_many"] []) (gP : mg "_law_pick" = some (.ref fP))
    (FO : Fun K "_law_some" "_law_some" sSome fO fdO) (bO : Binds K fdO ["_law_bag_here", "_law_things"] []) (gO : mg "_law_some" = some (.ref fO))
    (FN : Fun K "_law_needs" "_law_needs" s_needs fN fdN) (bN : Binds K fdN ["_law_bag_here", "_law_many", "_law_rare"] []) (gN : mg "_law_needs" = some (.ref fN)) :
    FnOk P w K mg base CX0 3 f fd ["_law_bag_here", "_law_most", "_law_blocks"] (spParts K) := by
  have GP : FnOk P w K mg base CX0 1 fP fdP ["_law_bag_here", "_law_many"] spPick := ok_pick FP B
  have GO : FnOk P w K mg base CX0 2 fO fdO ["_law_bag_here", "_law_things"] spSome := ok_some FO B FP bP gP
  have GN : FnOk P w K mg base CX0 2 fN fdN ["_law_bag_here", "_law_many", "_law_rare"] (spNeeds K) := ok_needs FN B hsr FP bP gP
  refine F.ok scPr (fun vs H Q E h => ?_) (fun cdv A outer s H vs Q E hr h => ?_)
  · obtain ⟨b, g, m, k, rfl, _⟩ := h
    rfl
  · obtain ⟨b, g, m, k, rfl, BA, hm, hk0, hk1, q⟩ := h
    refine ⟨_,
      (pss_cons (ps_asg (pe_tup (pa_cons (pe_call GP (hr.mono (by decide)) (by rfl) gP FP.kp bP .nil pass0 (pa_cons (pv 0) (pa_cons (pe_op op_add (pv 1) pe_int) pa_nil))) (pa_cons (pe_lst (pa_cons pe_int (pa_cons pe_int (pa_cons pe_int (pa_cons pe_int (pa_cons pe_int (pa_cons pe_int pa_nil))))))) pa_nil))) (pg_tup rfl (pgs_cons (pg_name (i := 3) scPr.nd rfl (.inl rfl)) (pgs_cons (pg_name (i := 4) scPr.nd rfl (.inr rfl)) pgs_nil))))
      (pss_cons (ps_if (pt_cmpR op_eq (pe_call GP (hr.mono (by decide)) (by rfl) gP FP.kp bP .nil pass0 (pa_cons (pv 0) (pa_cons pe_int pa_nil))) pe_int (nomark _))
        (pss_one (ps_set (i := 4) scPr.nd rfl (.inr rfl) (pe_lst (pa_cons pe_int (pa_cons pe_int (pa_cons pe_int (pa_cons pe_int (pa_cons pe_int (pa_cons pe_int pa_nil))))))))) pss_nil)
      (pss_cons (ps_set (i := 5) scPr.nd rfl (.inr rfl) (pe_op op_add pe_int (pe_call GP (hr.mono (by decide)) (by rfl) gP FP.kp bP .nil pass0 (pa_cons (pv 0) (pa_cons (pv 2) pa_nil)))))
      (pss_cons (ps_set (i := 6) scPr.nd rfl (.inl rfl) (pe_tupleOf (by rfl) B.tuple (pe_lc (own := [("_law_change", 7)]) (g := (gName 7)) (tt := tYes) (te := tOp (rIxL K) (tVar 4) (tCall spPick [] E0 (tCons (tVar 0) (tCons (tVar 5) tNil)))) rfl scPr.nd (pi_range1 rfl B.range (pa_cons (pv 3) pa_nil)) (blkOk_by (own := [("_law_change", 7)]) (N := scPrN) (sc := defScope s_parts) (by decide +kernel)) (fun _ _ _ _ _ => (pg_name (i := 7) scPr.nd rfl (.inl rfl))) (fun _ _ _ _ _ => pts_nil) (fun _ _ _ _ _ => (pe_ix ix_list (pv 4) (pe_call GP (hr.mono (by decide)) (by rfl) gP FP.kp bP .nil pass0 (pa_cons (pv 0) (pa_cons (pv 5) pa_nil))) (fun _ _ => rfl))))))
      (pss_one (ps_ret (pe_tup (pa_cons (pv 6) (pa_cons (pe_call GN hr (by rfl) gN FN.kp bN .nil pass0 (pa_cons (pv 0) (pa_cons (pv 3) (pa_cons (pe_call GO hr (by rfl) gO FO.kp bO .nil pass0 (pa_cons (pv 0) (pa_cons (pe_lst (pa_cons pe_int (pa_cons pe_int (pa_cons pe_int (pa_cons pe_int pa_nil))))) pa_nil))) pa_nil)))) pa_nil))))))))), ?_⟩
    have two : 2 ≤ sizeLine := by rw [sizeLine_eq]; decide
    have six : 6 ≤ sizeLine := by rw [sizeLine_eq]; decide
    refine ⟨_, rfl, _, rfl, _, _, rfl, rfl, b, g, (m : Int) + 1, rfl, BA, by omega, by omega, fun v H1 v0 v1 BA1 sb1 => ⟨six, fun nl nnl => ⟨two, fun tp ntp => ?_⟩⟩⟩
    refine ⟨tp, _, rfl, .inl (.inl upd_same), rfl, _, _, rfl, _, [], rfl, rfl, ?_⟩
    obtain ⟨mm, rfl⟩ : ∃ mm : Nat, v = (mm : Int) := ⟨v.toNat, by omega⟩
    have nbl := BA1.nb nnl
    have nnl0 : H nl = none := SameB.free BA sb1 nnl nbl.1 nbl.2
    have t1 : nl ≠ tp := ne_of_none upd_same ntp
    have s2 := (same_upd (o := .lst ([0, 1, 2, 3, 4, 5].map nV)) nnl).trans (same_upd (o := .tup [.int (mm : Int), .ref nl]) ntp)
    have e1 : upd (upd H1 nl (.lst ([0, 1, 2, 3, 4, 5].map nV))) tp (.tup [.int (mm : Int), .ref nl]) nl = some (.lst ([0, 1, 2, 3, 4, 5].map nV)) := by rw [upd_ne t1, upd_same]
    show tSeq _ _ _ _ (upd (upd H1 nl (.lst ([0, 1, 2, 3, 4, 5].map nV))) tp (.tup [.int (mm : Int), .ref nl]))
    generalize upd (upd H1 nl (.lst ([0, 1, 2, 3, 4, 5].map nV))) tp (.tup [.int (mm : Int), .ref nl]) = H2 at s2 e1 ⊢
    have BA2 := BA1.same s2
    have sb2 := sb1.trans (SameB.of s2)
    refine st_eq (σ' := [some (.ref b), some (nV m), some (nV k), some (nV mm), some (.ref nl), none, none, none]) rfl ?_
    refine ⟨_, rfl, b, g, 3, rfl, BA2, by omega, by omega, fun v3 H3 _ _ BA3 sb3 => ⟨rfl, _, rfl, ite_join (fun σ H4 => ∃ (n2 : Addr) (nms : List Nat), σ = [some (.ref b), some (nV m), some (nV k), some (nV mm), some (.ref n2), none, none, none] ∧ BagAt H4 b g ∧ SameB b g H H4 ∧ H4 n2 = some (.lst (nms.map nV)) ∧ n2 ≠ b ∧ n2 ≠ g ∧ nms.length = 6 ∧ ∀ x ∈ nms, x < 50)
      (fun kk _ => ⟨six, fun n2 nn2 => kk _ _ ⟨n2, [7, 2, 49, 0, 30, 11], rfl, BA3.same (same_upd nn2), (sb2.trans sb3).trans (SameB.of (same_upd nn2)), upd_same, (BA3.nb nn2).1, (BA3.nb nn2).2, rfl, by decide⟩⟩) (fun _ => ⟨nl, [0, 1, 2, 3, 4, 5], rfl, BA3, sb2.trans sb3, sb3 _ _ e1 nbl.1 nbl.2, nbl.1, nbl.2, rfl, by decide⟩) ?_⟩⟩
    rintro σ H4 ⟨n2, nms, rfl, BA4, sb4, en, nb1, nb2, l6, h50⟩
    refine ⟨_, rfl, _, rfl, b, g, (k : Int), rfl, BA4, by omega, by omega, fun vk H5 k0 k1 BA5 sb5 => ⟨_, _, rfl, rfl, ?_⟩⟩
    dsimp only [gName]
    refine st_eq (σ' := [some (.ref b), some (nV m), some (nV k), some (nV mm), some (.ref n2), some (.int (1 + vk)), none, none]) rfl ?_
    have en5 := sb5 _ _ en nb1 nb2
    refine ⟨_, rfl, (mm : Int), rfl, by omega, by omega, fun D nD => ?_⟩
    have nbd := BA5.nb nD
    refine lc_range (n := mm) (fun i H6 => BagAt H6 b g ∧ SameB b g H5 H6 ∧ ∃ bl : List Nat, H6 D = some (.lst (bl.map nV)) ∧ bl.length = i ∧ ∀ x ∈ bl, x < 50)
      ⟨BA5.put nbd.1 nbd.2, (SameB.refl b g H5).put nD, [], upd_same, rfl, fun x h => (by cases h)⟩ ?_ ?_
    · rintro i H6 hi ⟨BA6, s6, bl, eD, lb, hb⟩
      refine ⟨rfl, _, rfl, _, rfl, _, rfl, b, g, 1 + vk, rfl, BA6, by omega, by omega, fun u H7 u0 u1 BA7 sb7 => ?_⟩
      have en7 := sb7 _ _ (s6 _ _ en5 nb1 nb2) nb1 nb2
      have hu : u.toNat < nms.length := by omega
      have ex : nms[u.toNat]? = some nms[u.toNat] := List.getElem?_eq_getElem hu
      generalize nms[u.toNat] = x at ex
      have eD7 := sb7 _ _ eD nbd.1 nbd.2
      refine ⟨n2, _, u, nV x, rfl, rfl, .inl (.inl en7), at_of (j := u.toNat) (by omega) (map_get ex), _, eD7, by rw [List.length_map, sizeLine_eq]; omega, BA7.put nbd.1 nbd.2, (s6.trans sb7).put nD, bl ++ [x], by rw [upd_same, List.map_append]; rfl, by rw [List.length_append, lb]; rfl, fun y hy => ?_⟩
      rcases List.mem_append.mp hy with hy | hy
      · exact hb y hy
      · rw [List.mem_singleton] at hy
        subst hy
        exact h50 _ (List.mem_of_getElem? ex)
    · rintro H6 ⟨BA6, s6, bl, eD, lb, hb⟩
      refine .inl ⟨D, _, rfl, .inl (.inl eD), fun mt nmt => ?_⟩
      have BA7 := BA6.same (same_upd (o := .tup (bl.map nV)) nmt)
      have nbt := BA6.nb nmt
      have emt : upd H6 mt (.tup (bl.map nV)) mt = some (.tup (bl.map nV)) := upd_same
      have sb7 := ((sb4.trans sb5).trans s6).trans (SameB.of (same_upd (o := .tup (bl.map nV)) nmt))
      generalize upd H6 mt (.tup (bl.map nV)) = H7 at BA7 emt sb7 ⊢
      dsimp only [gName]
      refine st_eq (σ' := [some (.ref b), some (nV m), some (nV k), some (nV mm), some (.ref n2), some (.int (1 + vk)), some (.ref mt), none]) rfl ?_
      refine ⟨_, rfl, _, rfl, _, rfl, _, rfl, by rw [sizeLine_eq]; decide, fun ol nol => ?_⟩
      have nbo := BA7.nb nol
      refine ⟨b, g, ol, _, rfl, BA7.same (same_upd nol), upd_same, nbo.1, nbo.2, by decide, by decide, fun x H9 hx BA9 sb9 => ?_⟩
      obtain ⟨rr, rfl, r0, r1⟩ : ∃ rr : Nat, x = nV rr ∧ 0 < rr ∧ rr < 1000 := by
        simp only [List.mem_cons, List.not_mem_nil, or_false] at hx
        rcases hx with rfl | rfl | rfl | rfl
        · exact ⟨2, rfl, by decide, by decide⟩
        · exact ⟨3, rfl, by decide, by decide⟩
        · exact ⟨5, rfl, by decide, by decide⟩
        · exact ⟨1, rfl, by decide, by decide⟩
      refine ⟨b, g, mm, rr, rfl, BA9, by omega, r0, r1, fun na ns H10 BA10 sb10 nna PA asc inn len no => ⟨two, fun T nT => ?_⟩⟩
      have sbE := (((sb7.trans (SameB.of (same_upd nol))).trans sb9).trans sb10).trans (SameB.of (same_upd (o := .tup [.ref mt, .ref na]) nT))
      have em10 := (((SameB.of (same_upd nol)).trans sb9).trans sb10).trans (SameB.of (same_upd (o := .tup [.ref mt, .ref na]) nT)) _ _ emt nbt.1 nbt.2
      have nbT := BA10.nb nT
      refine q T mt na bl ns _ (BA10.same (same_upd nT)) sbE (SameB.free BA (((sb7.trans (SameB.of (same_upd nol))).trans sb9).trans sb10) nT nbT.1 nbT.2) upd_same em10 (PA.same (same_upd nT)) ⟨by omega, hb, len, asc, fun z hz => ?_⟩ no (by omega)
      rw [lb]
      exact inn z hz
end
end Rip

/-! The law's is_lot. -/
namespace Rip
open PySem PySem.Spec PyProof.Rows L2
theorem slT_of {K : PySem.W.Frag} {a : Addr} {xs : List V} {lo hi : Option Int} {H : Hp} {Q : VK} (h : SqT K H a xs) (q : ∀ (p : Addr) (H' : Hp), Same H H' → SqT K H' p (cutV xs lo hi) → Q (.ref p) H') : rSlA K (.ref a) lo hi H Q := by
  refine ⟨a, xs, rfl, h, fun z => ?_, fun _ p np => q p _ (same_upd np) (.inl (.inl upd_same))⟩
  refine q a H (Same.refl H) ?_
  have e : cutV xs lo hi = xs := by
    unfold cutV
    obtain ⟨z1, z2⟩ := z
    rw [z1, z2, List.drop_zero, Nat.sub_zero, List.take_length]
  rw [e]
  exact h
theorem walk_zipT {K : PySem.W.Frag} {a b : Addr} {xs ys : List V} {n : Nat} (hn : n = min xs.length ys.length) : Walk (RZ.ItzT K a b) n (fun H => SqT K H a xs ∧ SqT K H b ys) (YPair (fun i => xs[i]?) (fun i => ys[i]?)) := by
  subst hn
  refine ⟨fun i _ hi q => ?_, fun _ q => ⟨xs, ys, q.1, q.2, by omega⟩, fun i H v H' _ q y => ?_⟩
  · have h1 : i < xs.length := by omega
    have h2 : i < ys.length := by omega
    exact ⟨xs, ys, xs[i], ys[i], q.1, q.2, by simp [h1], by simp [h2]⟩
  · obtain ⟨T, x, z, h1, h2, h3, h4, h5⟩ := y
    exact ⟨T, x, z, h1, h2, h3, h4 xs q.1, h5 ys q.2⟩
theorem cut_one (l : List Nat) : cutV (l.map nV) (some 1) none = (l.drop 1).map nV := by
  unfold cutV
  rw [HT.sIx_none, show (some (1 : Int)) = some ((1 : Nat) : Int) from rfl, HT.sIx_nat, List.length_map, List.map_drop]
  cases l with
  | nil => rfl
  | cons x l =>
    rw [List.length_cons, Nat.min_eq_left (by omega)]
    exact List.take_of_length_le (by rw [List.length_drop, List.length_map, List.length_cons]; exact Nat.le_refl _)
def adj (l : List Nat) (k : Nat) : List Bool := (List.range k).map fun i => decide (l.getD i 0 < l.getD (i + 1) 0)
theorem adj_succ (l : List Nat) (k : Nat) : adj l (k + 1) = adj l k ++ [decide (l.getD k 0 < l.getD (k + 1) 0)] := by
  unfold adj
  rw [List.range_succ, List.map_append]
  rfl
theorem adj_asc (l : List Nat) : (adj l (l.length - 1)).all id = true ↔ l.Pairwise (· < ·) := by
  unfold adj
  rw [List.all_map, List.all_eq_true]
  constructor
  · intro h
    have step : ∀ i, i + 1 < l.length → l.getD i 0 < l.getD (i + 1) 0 := fun i hi => by
      have := h i (List.mem_range.mpr (by omega))
      exact of_decide_eq_true this
    have far : ∀ d i, i + d + 1 < l.length → l.getD i 0 < l.getD (i + d + 1) 0 := by
      intro d
      induction d with
      | zero => exact fun i hi => step i hi
      | succ d ih => exact fun i hi => Nat.lt_trans (ih i (by omega)) (step (i + d + 1) (by omega))
    rw [List.pairwise_iff_getElem]
    intro i j hi hj hij
    have z := far (j - i - 1) i (by omega)
    rw [show i + (j - i - 1) + 1 = j by omega, List.getD_eq_getElem?_getD, List.getD_eq_getElem?_getD, List.getElem?_eq_getElem hi, List.getElem?_eq_getElem hj] at z
    exact z
  · intro h i hi
    have hi := List.mem_range.mp hi
    have z := (List.pairwise_iff_getElem.mp h) i (i + 1) (by omega) (by omega) (by omega)
    refine decide_eq_true ?_
    rw [List.getD_eq_getElem?_getD, List.getD_eq_getElem?_getD, List.getElem?_eq_getElem (by omega : i < l.length), List.getElem?_eq_getElem (by omega : i + 1 < l.length)]
    exact z
theorem lot_adj (n : Nat) {l : List Nat} (h : ∀ i ∈ l, i < n) : lotGo n (-1) (l.map nV) = (adj l (l.length - 1)).all id := by
  rw [Bool.eq_iff_iff, adj_asc]
  constructor
  · intro z
    obtain ⟨l', e, hp, _⟩ := lotGo_nat n _ _ z
    have : l = l' := by
      have inj : ∀ {a b : List Nat}, a.map nV = b.map nV → a = b := by
        intro a
        induction a with
        | nil => intro b e; cases b with
          | nil => rfl
          | cons _ _ => cases e
        | cons x a ih => intro b e; cases b with
          | nil => cases e
          | cons y b =>
            rw [List.map_cons, List.map_cons] at e
            injection e with e1 e2
            injection e1 with e1
            rw [ih e2, show x = y by omega]
      exact inj e
    subst this
    exact hp
  · intro hp
    exact lotGo_map n l (-1) hp fun i hi => ⟨h i hi, by omega⟩
/-- all below: they are numbers -/
theorem all_below (n : Nat) : ∀ (xs : List V), (xs.map (isBelow n)).all id = true → ∃ l : List Nat, xs = l.map nV ∧ ∀ i ∈ l, i < n
  | [], _ => ⟨[], rfl, fun _ h => nomatch h⟩
  | x :: xs, h => by
    rw [List.map_cons, List.all_cons, Bool.and_eq_true] at h
    obtain ⟨c, rfl, hc⟩ := below_nat (n := n) h.1
    obtain ⟨l, rfl, hl⟩ := all_below n xs h.2
    refine ⟨c :: l, rfl, fun i hi => ?_⟩
    rcases List.mem_cons.mp hi with e | hi
    · subst e; exact hc
    · exact hl i hi
theorem not_below (n : Nat) : ∀ (xs : List V) (a : Int), (xs.map (isBelow n)).all id = false → lotGo n a xs = false
  | [], _, h => by cases h
  | x :: xs, a, h => by
    cases e : lotGo n a (x :: xs) with
    | false => rfl
    | true =>
      obtain ⟨l, hl, _, hb⟩ := lotGo_nat n _ _ e
      have : ((x :: xs).map (isBelow n)).all id = true := by
        rw [hl, List.map_map, List.all_map, List.all_eq_true]
        intro i hi
        show decide ((0 : Int) ≤ (i : Int) ∧ (i : Int) < (n : Int)) = true
        have := (hb i hi).1
        exact decide_eq_true (by omega)
      rw [this] at h
      cases h
section
variable {P : Program} {w : World} {K : PySem.W.Frag} {mg : Str → Option Value} {base : Heap}
abbrev s_lawlot : Stmt := top 43
def spLawLot (K : PySem.W.Frag) : Sp := fun vs H Q _ => ∃ (n : Nat) (v : V) (tp : Bool), vs = [v, nV n] ∧ ObT K H v tp ∧ (tp = false → Q (.bl false) H) ∧
  (tp = true → ∃ (t : Addr) (xs : List V), v = .ref t ∧ SqT K H t xs ∧ xs.length ≤ 900000 ∧ (∀ x ∈ xs, ∀ H', Same H H' → Ob K H' x) ∧ ∀ H', Same H H' → Q (.bl (lotGo n (-1) xs)) H')
abbrev scLlN : List Str := ["_law_thing", "_law_many", "_law_one", "_law_other"]
theorem scLl : FnScope scLlN ["_law_thing", "_law_many"] (defScope s_lawlot) := ⟨rfl, rfl, rfl, by decide +kernel, rfl, by decide +kernel, by decide +kernel⟩
theorem ok_lawlot {f fI : Addr} {fd fdI : FuncData} (F : Fun K "_law_is_lot" "_law_is_lot" s_lawlot f fd) (B : Blt mg) (FI : Fun K "_law_is_int" "_law_is_int" s_isint fI fdI) (bI : Binds K fdI ["_law_thing", "_law_least", "_law_most"] []) (gI : mg "_law_is_int" = some (.ref fI)) :
    FnOk P w K mg base CX0 2 f fd ["_law_thing", "_law_many"] (spLawLot K) := by
  have GI : FnOk P w K mg base CX0 1 fI fdI ["_law_thing", "_law_least", "_law_most"] (spIsInt K) := ok_isint FI B
  refine F.ok scLl (fun vs H Q E h => ?_) (fun cdv A outer s H vs Q E hr h => ?_)
  · obtain ⟨n, v, tp, rfl, _⟩ := h
    rfl
  · obtain ⟨n, v, tp, rfl, ot, q0, q1⟩ := h
    refine ⟨_,
      (pss_cons (ps_if (pw_or (pt_not (pt_val (pe_callB call_isi (by rfl) B.isinstance PyProof.Rows.boot_isinstance (pa_cons (pv 0) (pa_cons (pe_bltn (v := .ty "tuple") (by rfl) B.tuple PyProof.Rows.boot_tuple rfl) pa_nil)))))
          (pw_or1 (pt_not (pt_val (pe_callB (cr_all rfl) (by rfl) B.all PyProof.Rows.boot_all (pa_cons (pe_lc (own := [("_law_one", 2)]) (g := gName 2) (tt := tYes) (te := tCall (spIsInt K) [] E0 (tCons (tVar 2) (tCons (tC (.int 0)) (tCons (tOp (rI0 fun i j => .int (i - j)) (tVar 1) (tC (.int 1))) tNil)))) rfl scLl.nd (pi_tup (pv 0)) (blkOk_by (own := [("_law_one", 2)]) (N := scLlN) (sc := defScope s_lawlot) (by decide +kernel)) (fun _ _ _ _ _ => (pg_name (i := 2) scLl.nd rfl (.inl rfl))) (fun _ _ _ _ _ => pts_nil)
            (fun _ _ _ _ _ => (pe_call GI hr (by rfl) gI FI.kp bI .nil pass0 (pa_cons (pv 2) (pa_cons pe_int (pa_cons (pe_op op_sub (pv 1) pe_int) pa_nil)))))) pa_nil)))))).pt
        (pss_one (ps_ret pe_bl)) pss_nil)
      (pss_one (ps_ret (pe_callB (cr_all rfl) (by rfl) B.all PyProof.Rows.boot_all (pa_cons (pe_lc (own := [("_law_one", 2), ("_law_other", 3)]) (g := gTwo K 2 3) (tt := tYes) rfl scLl.nd (RZ.pi_zipA (by rfl) B.zip (pa_cons (pv 0) (pa_cons (pe_slice sl_tupA (pv 0) (po_some pe_int) po_none) pa_nil))) (blkOk_by (own := [("_law_one", 2), ("_law_other", 3)]) (N := scLlN) (sc := defScope s_lawlot) (by decide +kernel))
        (fun _ _ _ _ _ => (pg_tup rfl (pgs_cons (pg_name (i := 2) scLl.nd rfl (.inl rfl)) (pgs_cons (pg_name (i := 3) scLl.nd rfl (.inl rfl)) pgs_nil)))) (fun _ _ _ _ _ => pts_nil) (fun _ _ _ _ _ => (pe_cmpR op_lt (pv 2) (pv 3) (nomark _)))) pa_nil))))), ?_⟩
    obtain ⟨tt, ty, k1⟩ := ot
    refine ⟨_, rfl, v, _, tt, _, tp, rfl, .ty "tuple", ty, k1, _, rfl, ?_⟩
    cases tp with
    | false => exact iteT (q0 rfl)
    | true =>
      obtain ⟨t, xs, rfl, hS, hxl, ho, q⟩ := q1 rfl
      refine iteF ?_
      refine ⟨_, rfl, t, rfl, ⟨_, hS⟩, fun D nD => ?_⟩
      refine lc_tup (K := K) (a := t) (xs := xs) (fun i H2 => Same H H2 ∧ H2 D = some (.lst (((xs.take i).map (isBelow n)).map V.bl))) ⟨same_upd nD, upd_same⟩ (fun i H2 _ z => same_seqT z.1 hS) ?_ ?_
      · rintro i x H2 ex ⟨s2, eD⟩
        refine ⟨rfl, _, rfl, _, rfl, _, _, rfl, rfl, x, 0, (n : Int) - 1, rfl, ho x (at_mem ex) H2 s2, _, eD, ?_, same_put s2 nD, ?_⟩
        · rw [List.length_map, List.length_map, List.length_take, sizeLine_eq]
          omega
        · rw [upd_same, inR_below, take_one ex, List.map_append, List.map_append]
          rfl
      · rintro H2 ⟨s2, eD⟩
        rw [List.take_length] at eD
        refine ⟨D, xs.map (isBelow n), rfl, .inl (.inl eD), _, rfl, ?_⟩
        cases eb : (xs.map (isBelow n)).all id with
        | false =>
          have := q H2 s2
          rw [not_below n xs (-1) eb] at this
          exact iteT this
        | true =>
          refine iteF ?_
          obtain ⟨l, rfl, hl⟩ := all_below n xs eb
          rw [lot_adj n hl] at q
          have hS2 := same_seqT s2 hS
          refine ⟨_, rfl, _, rfl, (1 : Int), rfl, ?_⟩
          dsimp only [tNoPart, Cx.nox]
          refine slT_of hS2 fun p H3 s3 e3 => ?_
          rw [cut_one] at e3
          have hS3 := same_seqT s3 hS2
          have ln : l.length - 1 = min (l.map nV).length ((l.drop 1).map nV).length := by
            rw [List.length_map, List.length_map, List.length_drop]
            omega
          refine ⟨t, p, _, _, rfl, .inr ⟨hS3, e3, fun D2 nD2 => ?_⟩⟩
          refine lc_it (walk_zipT (K := K) (a := t) (b := p) ln) (fun i H4 => Same H3 H4 ∧ H4 D2 = some (.lst ((adj l i).map V.bl))) ⟨same_upd nD2, upd_same⟩ (fun i H4 _ z => ⟨same_seqT z.1 hS3, same_seqT z.1 e3⟩) ?_ ?_
          · rintro i x H4 H5 hi ⟨s4, eD4⟩ ⟨T, v1, v2, rfl, nT, rfl, e1, e2⟩
            have i1 : l[i]? = some l[i] := List.getElem?_eq_getElem (by omega)
            have i2 : l[i + 1]? = some l[i + 1] := List.getElem?_eq_getElem (by omega)
            have g1 := getD_some (d := 0) i1
            have g2 := getD_some (d := 0) i2
            have e1 : (l.map nV)[i]? = some v1 := e1
            have e2 : ((l.drop 1).map nV)[i]? = some v2 := e2
            rw [List.getElem?_map, i1] at e1
            rw [List.getElem?_map, List.getElem?_drop, Nat.add_comm 1 i, i2] at e2
            cases e1
            cases e2
            have nDT : D2 ≠ T := ne_of_none eD4 nT
            refine ⟨T, _, rfl, .inl (.inl upd_same), rfl, _, _, rfl, _, [], rfl, rfl, ?_⟩
            refine ⟨rfl, _, rfl, _, rfl, _, _, rfl, rfl, _, by rw [upd_ne nDT]; exact eD4, ?_, same_put (s4.trans (same_upd nT)) nD2, ?_⟩
            · rw [List.length_map]
              unfold adj
              rw [List.length_map, List.length_range, sizeLine_eq]
              rw [List.length_map] at hxl
              omega
            · rw [upd_same, adj_succ, List.map_append, g1, g2]
              have eA : V.bl (decide (((l[i] : Nat) : Int) < ((l[i + 1] : Nat) : Int))) = V.bl (decide (l[i] < l[i + 1])) := congrArg V.bl (decide_eq_decide.mpr (by omega))
              exact congrArg (fun z => some (HO.lst (List.map V.bl (adj l i) ++ [z]))) eA
          · rintro H4 ⟨s4, eD4⟩
            exact ⟨D2, _, rfl, .inl (.inl eD4), q H4 ((s2.trans s3).trans s4)⟩
end
end Rip

/-! t[::-1] of a tuple. -/
namespace Rip
open PySem PySem.Spec PyProof.Rows L2 HT
section
variable {prog : Program} {w : World} {A : Around} {E : Value → Shared → Prop} {z : Shared}
theorem adj_back (n : Nat) : Builtin.Slice.sliceAdjust none none (-1) (n : Int) = ((n : Int) - 1, -1) := by
  unfold Builtin.Slice.sliceAdjust
  simp
theorem places_back (n : Nat) : Builtin.Slice.slicePlaces ((n : Int) - 1) (-1) (-1) = n := by
  unfold Builtin.Slice.slicePlaces
  rw [if_neg (by decide)]
  by_cases fin : 0 < n
  · rw [if_pos (by omega)]
    simp
  · rw [if_neg (by omega)]
    omega
theorem pick_back (xs : Array Value) : ((List.range xs.size).filterMap fun (k : Nat) => xs[((xs.size : Int) - 1 + (k : Int) * (-1)).toNat]?).toArray = xs.toList.reverse.toArray := by
  congr 1
  have e : (fun (k : Nat) => xs[((xs.size : Int) - 1 + (k : Int) * (-1)).toNat]?) = (fun k => xs[k]?) ∘ fun k => xs.size - 1 - k := by
    funext k
    show xs[((xs.size : Int) - 1 + (k : Int) * (-1)).toNat]? = xs[xs.size - 1 - k]?
    congr 1
    omega
  rw [e, ← List.filterMap_map, PySem.W.krv_range, List.filterMap_reverse]
  exact congrArg List.reverse (PySem.W.krv_all xs)
theorem applied_back {sl : Addr} {vl vu vs : Value} {n : Nat} {Q : Int × Int × Nat → Shared → Prop} (hs : z.heap.IsSliceOf sl vl vu vs) (pl : IsPart vl none) (pu : IsPart vu none) (ps : IsPart vs (some (-1)))
    (fin : Q ((n : Int) - 1, -1, n) z) : wpAny (model prog w) A (Builtin.Slice.sliceApplied (.ref sl) (pure (n : Int))) Q E z := by
  obtain ⟨o, ho, hc, hd⟩ := id hs
  cases pl
  cases pu
  unfold Builtin.Slice.sliceApplied Builtin.Slice.sliceFields
  refine wpAny_bind (wpAny_bind (wpAny_field ho hd rfl (wpAny_bind (wpAny_field ho hd rfl (wpAny_bind (wpAny_field ho hd rfl (wpAny_pure ?_)))))))
  refine wpAny_bind (slicePart_ ps ?_)
  show wpAny _ _ (if ((-1 : Int) == 0) = true then _ else _) _ _ z
  rw [if_neg (by decide)]
  refine wpAny_bind (slicePart_none (wpAny_bind (slicePart_none (wpAny_bind (wpAny_pure ?_)))))
  show wpAny _ _ (match Builtin.Slice.sliceAdjust none none (-1) (n : Int) with | (lo, hi) => pure (lo, (-1 : Int), Builtin.Slice.slicePlaces lo hi (-1))) _ _ z
  rw [adj_back]
  show wpAny _ _ (pure ((n : Int) - 1, (-1 : Int), Builtin.Slice.slicePlaces ((n : Int) - 1) (-1) (-1))) _ _ z
  rw [places_back]
  exact wpAny_pure fin
theorem item_back {t sl : Addr} {items : Array Value} {vl vu vs : Value} {Q : Value → Shared → Prop} (tu : IsTup z.heap t items) (hs : z.heap.IsSliceOf sl vl vu vs) (pl : IsPart vl none) (pu : IsPart vu none) (ps : IsPart vs (some (-1)))
    (fin : Q (.ref z.heap.objs.size) { z with heap := z.heap.push { cls := .type "tuple", data := .seq items.toList.reverse.toArray } }) (hsz : items.size ≤ sizeLine) : wpAny (model prog w) A (getItem (.ref t) (.ref sl)) Q E z := by
  have fits : sizeOk (.seq items.toList.reverse.toArray) := by
    show items.toList.reverse.toArray.size ≤ sizeLine
    simpa using hsz
  obtain ⟨o, ho, hc, hd⟩ := id hs
  have hT : z.TypeIs (.ref sl) "slice" := ⟨o, ho, hc⟩
  unfold getItem
  (try with_reducible refine wpAny_holding ?_); (first | refine wpAny_bind (wpAny_pure ?_) | skip)
  refine wpAny_bind (wpAny_sequenceKey tu.typeIs (by decide) (wpAny_bind (wpAny_callSpecial?_slot (name := Str.ofString "__getitem__") tu.typeIs PyProof.Rows.slot_tuple_getitem
    (wpAny_call_entry PyProof.Rows.slot_tuple_getitem tu.typeIs entry_tuple_getitem ?_ (args_tuple_getitem _ _)))))
  show wpAny _ _ (Builtin.Tuple.tupleItemsOf (.ref t) >>= _) _ _ z
  refine wpAny_bind (tupleItemsOf_ tu (wpAny_bind (wpAny_typeOf hT ?_)))
  rw [if_pos (by decide)]
  refine wpAny_bind (applied_back hs pl pu ps ?_)
  have no : ¬ ((((items.size : Int) - 1 == 0) && ((-1 : Int) == 1) && (items.size == items.size)) = true) := by simp
  show wpAny _ _ (if (((items.size : Int) - 1 == 0) && ((-1 : Int) == 1) && (items.size == items.size)) = true then _ else _) _ _ z
  rw [if_neg no, pick_back]
  first
    | exact wpAny_bind (m := Builtin.Tuple.tupleExact _) (wpAny_newObj_type (wpAny_pure ⟨_, rfl, wpAny_pure fin⟩) fits)
    | exact wpAny_bind (m := Builtin.Tuple.tupleExact _) (wpAny_newObj_type (wpAny_bind (wpAny_pure (wpAny_pure ⟨_, rfl, wpAny_pure fin⟩))) fits)
    | exact wpAny_bind (wpAny_bind (m := Builtin.Tuple.tupleExact _) (wpAny_newObj_type (wpAny_pure (wpAny_pure ⟨_, rfl, wpAny_pure fin⟩)) fits))
    | exact wpAny_bind (wpAny_bind (m := Builtin.Tuple.tupleExact _) (wpAny_newObj_type (wpAny_pure ⟨_, rfl, wpAny_pure fin⟩) fits))
end
def tRevT (K : PySem.W.Frag) (te : TE) : TE := fun σ H Q => te σ H fun x H1 => ∃ a xs, x = .ref a ∧ SqT K H1 a xs ∧ ∀ p, H1 p = none → Q (.ref p) (upd H1 p (.tup xs.reverse))
/-- t[::-1] -/
theorem pe_revT {X : Cx} {e : Expr} {te : TE} {k : Nat} {p1 p2 p3 pos : Pos} (he : PE X e te) : PE X (.Subscript e (.Slice none none (some (.UnaryOp .USub (.Constant (.int 1) k p1) p2)) p3) pos) (tRevT X.K te) := by
  refine ⟨fun pins s σ H Q I h => Subscript_ (thn (he.run pins s σ H _ I h) fun v s1 ⟨x, H1, I1, r1, a, xs, ex, hx, q⟩ => ?_)⟩
  subst ex
  cases r1
  have back : PO X (some (.UnaryOp .USub (.Constant (.int 1) k p1) p2)) (tPart (tUn (rU fun i => .int (-i)) (tC (.int 1)))) := po_some (pe_un un_neg pe_int)
  refine wpAny_Slice (thn (po_none.run pins s1 σ H1 (fun o H2 => o = none ∧ H2 = H1) I1 ⟨rfl, rfl⟩) fun vl s2 ⟨o2, H2, I2, pl, e2, g2⟩ => thn (po_none.run pins s2 σ H2 (fun o H3 => o = none ∧ H3 = H2) I2 ⟨rfl, rfl⟩) fun vu s3 ⟨o3, H3, I3, pu, e3, g3⟩ =>
    thn (back.run pins s3 σ H3 (fun o H4 => o = some (-1) ∧ H4 = H3) I3 ⟨1, rfl, -1, rfl, rfl, rfl⟩) fun vs s4 ⟨o4, H4, I4, ps, e4, g4⟩ => ?_)
  subst e2 g2 e3 g3 e4 g4
  have I5 : Inv X pins σ H4 { s4 with heap := s4.heap.push { cls := .type "slice", data := .fields #[vl, vu, vs] } } := I4.kept (t' := s4.toks) fun b ob q => Heap.get?_push_of_some _ q
  obtain ⟨its, r, ht, hz⟩ := I5.tuple hx
  have hlen := r.length
  show wpAny (model X.prog X.w) X.A (subscriptTail e (.Slice none none (some (.UnaryOp .USub (.Constant (.int 1) k p1) p2)) p3) (.ref a) (.ref s4.heap.objs.size)) (EP X pins σ Q) X.xe { s4 with heap := s4.heap.push { cls := .type "slice", data := .fields #[vl, vu, vs] } }
  refine tail_any (ops := [.ref a, .ref s4.heap.objs.size]) ht.typeIs (PyProof.Rows.slot_tuple_getitem.lookup) ?_ (by with_unfolding_all rfl)
  refine item_back ht (Heap.IsSliceOf.new _ vl vu vs) pl pu ps ?_ (by rw [List.size_toArray]; omega)
  refine ⟨.ref _, _, I5.laid (t' := s4.toks) (o := .tup xs.reverse) (fun b ob q => Heap.get?_push_of_some _ q) (Nat.le_refl _) ?_, rfl, q _ (I5.hok.fresh (Nat.le_refl _))⟩
  exact ⟨by rw [List.length_reverse]; exact hz, _, r.reverse, IsTup.new _ _⟩
end Rip

/-! The law's word: what it makes of a lambda; xs.count(True). -/
namespace L2
open PySem PySem.Spec PyProof.Rows
/-! ### xs.count(b), all True or False -/
def eqkB (k : Bool) (v : Value) : Bool := match v with
  | .bool n => n == k
  | _ => false
theorem eqkB_count {k : Bool} : ∀ {bs : List Bool}, (bs.map Value.bool).countP (eqkB k) = bs.count k
  | [] => rfl
  | b :: bs => by
    have ih := eqkB_count (k := k) (bs := bs)
    rw [List.map_cons, List.countP_cons, List.count_cons, ih] <;> rfl
def rCntB (K : PySem.W.Frag) : V → List V → Hp → VK → Prop := fun x xs H Q => ∃ (p : Addr) (bs : List Bool) (k : Bool), x = .ref p ∧ xs = [.bl k] ∧ SqL K H p (bs.map V.bl) ∧ Q (.int (bs.count k : Nat)) H
theorem mt_lcountB {X : Cx} : MtR X "list.count" (rCntB X.K) := by
  intro pins s σ H x xs v us Q I rx rxs h
  obtain ⟨p, bs, k, rfl, rfl, hs, q⟩ := h
  cases rx
  obtain ⟨u, rfl, ru⟩ := rxs.one
  obtain rfl : u = Value.bool k := ru
  obtain ⟨its, rv, ⟨⟨cls, dd, data, sl⟩, n, ho, hc, hdn, hd⟩, hlen⟩ := I.list hs
  simp only at hc hd
  subst hc hd
  have hi := rv.bls
  refine call_meets PySem.F.slot_list_count ⟨_, ho, rfl⟩ PySem.F.entry_list_count (PySem.F.args_list_count_2 _ _)
    (SeqAt.list_countAt p its.toArray n dd sl (.bool k) (eqkB k)) ⟨ho, fun y hy => ?_, ?_⟩
  · have hy : y ∈ its := by simpa using hy
    rw [hi] at hy
    obtain ⟨b, _, rfl⟩ := List.mem_map.mp hy
    exact SeqAt.EqAt.bool_bool b k
  · have ec : its.toArray.toList.countP (eqkB k) = bs.count k := by
      rw [hi]
      exact eqkB_count
    refine ⟨.int (bs.count k : Nat), H, I.tok _, ⟨s.toks, ?_⟩, q⟩
    show Value.int ((its.toArray.toList.countP (eqkB k) : Nat) : Int) s.toks = Value.int ((bs.count k : Nat) : Int) s.toks
    rw [ec]
/-- isinstance of the exception that the suite holds, whatever its class -/
theorem call_isEg {X : Cx} {a : Addr} {oe : Obj} {cls : Value} {d : Option Addr} {pn : List (Addr × Obj)} (hz : Zc cls d oe) (hf : ∃ vs, oe.data = .fields vs) :
    CallR (X.suite a ((a, oe) :: pn)) (.builtin "isinstance") (fun xs H Q => ∃ D, cls = .ref D ∧ d = none ∧ ExcC X.K D ∧ rIsE X.K D a xs H Q) := by
  intro pins s σ H xs us Q I r h
  obtain ⟨D, rfl, rfl, C, h⟩ := h
  exact call_isE C hz hf pins s σ H xs us Q I r h
end L2
namespace Rip
open PySem PySem.Spec PyProof.Rows L2
theorem boot_ve : bootBuiltins "ValueError" = some (.type "ValueError") := by decide +kernel
theorem _root_.L2.PE.mono {X : Cx} {e : Expr} {te : TE} (h : PE X e te) : PE X e (fun σ H Q => ∃ Q1 : VK, te σ H Q1 ∧ ∀ v H', Q1 v H' → Q v H') :=
  ⟨fun pins s σ H Q I ⟨Q1, h1, h2⟩ => thn (h.run pins s σ H Q1 I h1) fun _ _ ⟨x, H1, I1, r1, q1⟩ => ⟨x, H1, I1, r1, h2 _ _ q1⟩⟩
theorem takes_len {X : Cx} {W : WX} {n : Nat} (hn : X.N.length = n) (t : Takes X W) : Takes X (fun cls d σ H => σ.length = n → W cls d σ H) := by
  intro u s' x
  obtain ⟨a, B, sI, pins, σ, H, cls, d, e, I, z1, z2, z3, z4, z5, z6, w⟩ := x
  refine t u s' ⟨a, B, sI, pins, σ, H, cls, d, e, I, z1, z2, z3, z4, z5, z6, w ?_⟩
  have l := I.len
  omega
end Rip

/-! What stands through the law's turns: all but the bag's two lists and the tables of lambdas. -/
namespace Rip
open PySem PySem.Spec PyProof.Rows L2
def Kp (b g : Addr) (H H' : Hp) : Prop := ∀ c o, H c = some o → c ≠ b → c ≠ g → (∀ ps, o ≠ .tbl ps) → H' c = some o
theorem Kp.refl (b g : Addr) (H : Hp) : Kp b g H H := fun _ _ h _ _ _ => h
theorem Kp.trans {b g : Addr} {H H1 H2 : Hp} (x : Kp b g H H1) (y : Kp b g H1 H2) : Kp b g H H2 := fun c o h n m t => y c o (x c o h n m t) n m t
theorem Kp.same {b g : Addr} {H H' : Hp} (s : Same H H') : Kp b g H H' := fun c o h _ _ _ => s c o h
theorem Kp.sameB {b g : Addr} {H H' : Hp} (s : SameB b g H H') : Kp b g H H' := fun c o h n m _ => s c o h n m
theorem Kp.ext {b g : Addr} {H H' : Hp} (e : LamX.ExtN H H') : Kp b g H H' := fun c o h _ _ t => e c o h t
theorem Kp.put {b g p : Addr} {H H' : Hp} {o : HO} (k : Kp b g H H') (n : H p = none) : Kp b g H (upd H' p o) := fun c u h h1 h2 t => by
  rw [upd_ne (ne_of_none h n)]
  exact k c u h h1 h2 t
theorem BagAt.ext {H H' : Hp} {b g : Addr} (h : BagAt H b g) (e : LamX.ExtN H H') : BagAt H' b g := by
  obtain ⟨s, c, al, hb, ha⟩ := h.ob
  obtain ⟨gs, hg⟩ := h.gr
  exact ⟨⟨s, c, al, e _ _ hb (fun ps z => by cases z), ha⟩, gs, e _ _ hg (fun ps z => by cases z)⟩
theorem BagAt.off {H : Hp} {b g a : Addr} {o : HO} (h : BagAt H b g) (e : H a = some o) (n : ∀ xs, o ≠ .lst xs) : a ≠ b ∧ a ≠ g := by
  obtain ⟨s, c, al, hb, ha⟩ := h.ob
  obtain ⟨gs, hg⟩ := h.gr
  exact ⟨ne_of e hb (n _), ne_of e hg (n _)⟩
theorem seqT_kp {K : PySem.W.Frag} {H H' : Hp} {b g a : Addr} {xs : List V} (B : BagAt H b g) (k : Kp b g H H') (h : SqT K H a xs) : SqT K H' a xs := by
  unfold SqT at *
  rcases h with (h | ⟨u, h⟩) | h
  · have z := B.off h (fun xs e => by cases e)
    exact .inl (.inl (k _ _ h z.1 z.2 fun ps e => by cases e))
  · have z := B.off h (fun xs e => by cases e)
    exact .inl (.inr ⟨u, k _ _ h z.1 z.2 fun ps e => by cases e⟩)
  · exact .inr h
theorem PairsAt.kp {K : PySem.W.Frag} {H H' : Hp} {b g a : Addr} {ns : List (Nat × Nat)} (B : BagAt H b g) (k : Kp b g H H') (h : PairsAt K H a ns) : PairsAt K H' a ns := by
  obtain ⟨rs, h1, h2, h3⟩ := h
  exact ⟨rs, seqT_kp B k h1, h2, fun i r p x y => seqT_kp B k (h3 i r p x y)⟩
theorem BookAt.kp {K : PySem.W.Frag} {C : Addr} {H H' : Hp} {b g p : Addr} {bl : List Nat} {ns : List (Nat × Nat)} {f : List Nat} (B : BagAt H b g) (k : Kp b g H H') (h : BookAt K C H p bl ns f) : BookAt K C H' p bl ns f := by
  obtain ⟨dx, x, a, t, h1, h2, h3, h4⟩ := h.ob
  have z := B.off h1 (fun xs e => by cases e)
  exact ⟨⟨dx, x, a, t, k _ _ h1 z.1 z.2 (fun ps e => by cases e), seqT_kp B k h2, h3.kp B k, seqT_kp B k h4⟩, h.fars⟩
theorem tabs_same {T : List (Addr × Str)} {H H' : Hp} (t : LamX.Tabs T H) (s : Same H H') : LamX.Tabs T H' := t.ext s
theorem tabs_sameB {T : List (Addr × Str)} {H H' : Hp} {b g : Addr} (B : BagAt H b g) (t : LamX.Tabs T H) (s : SameB b g H H') : LamX.Tabs T H' := fun p hp => by
  obtain ⟨ps, h1, h2, h3⟩ := t p hp
  have z := B.off h1 (fun xs e => by cases e)
  refine ⟨ps, s _ _ h1 z.1 z.2, h2, fun pos cv hc => ?_⟩
  obtain ⟨c, e1, e2⟩ := h3 pos cv hc
  have z2 := B.off e2 (fun xs e => by unfold LamX.CodeO at e; cases e)
  exact ⟨c, e1, s _ _ e2 z2.1 z2.2⟩
/-! ### the things that are picked -/
def scal : V → Bool
  | .non => true | .bl _ => true | .int _ => true | .str _ => true
  | _ => false
inductive Thing (K : PySem.W.Frag) (C b g : Addr) (H : Hp) : V → Prop
  | sc {v : V} (h : scal v = true) : Thing K C b g H v
  | lst {a : Addr} {xs : List V} (h : H a = some (.lst xs)) (h1 : a ≠ b) (h2 : a ≠ g) : Thing K C b g H (.ref a)
  | dct {a : Addr} {kvs : List (Key × V)} (h : H a = some (.dK kvs)) : Thing K C b g H (.ref a)
  | tup {a : Addr} {xs : List V} (h : SqT K H a xs) (hx : ∀ x ∈ xs, scal x = true) (hl : xs.length ≤ 900000) : Thing K C b g H (.ref a)
  | ins {a dx : Addr} {fs : List (Str × V)} (h : H a = some (.ins C dx fs)) : Thing K C b g H (.ref a)
theorem Thing.kp {K : PySem.W.Frag} {C b g : Addr} {H H' : Hp} {v : V} (t : Thing K C b g H v) (B : BagAt H b g) (k : Kp b g H H') : Thing K C b g H' v := by
  cases t with
  | sc h => exact .sc h
  | lst h h1 h2 => exact .lst (k _ _ h h1 h2 fun ps e => by cases e) h1 h2
  | dct h => exact .dct (k _ _ h (B.off h fun xs e => by cases e).1 (B.off h fun xs e => by cases e).2 fun ps e => by cases e)
  | tup h hx hl => exact .tup (seqT_kp B k h) hx hl
  | ins h => exact .ins (k _ _ h (B.off h fun xs e => by cases e).1 (B.off h fun xs e => by cases e).2 fun ps e => by cases e)
/-- what isinstance says of a book -/
structure BkI (K : PySem.W.Frag) (C : Addr) : Prop where
  ty : ∀ (H : Hp) (a dx : Addr) (fs : List (Str × V)), H a = some (.ins C dx fs) → TyX K H (.ref a) (.ref C)
  i : PySem.W.kitOne K (.ref C) (.type "int") = some false
  b : PySem.W.kitOne K (.ref C) (.type "bool") = some false
  t : PySem.W.kitOne K (.ref C) (.type "tuple") = some false
theorem scal_ob {K : PySem.W.Frag} {H : Hp} {v : V} (h : scal v = true) : Ob K H v := by
  cases v with
  | non => exact ob_non
  | bl x => exact ob_bl x
  | int i => exact ob_int i
  | str x => exact ob_str x
  | _ => cases h
theorem scal_obt {K : PySem.W.Frag} {H : Hp} {v : V} (h : scal v = true) : ObT K H v false := by
  cases v with
  | non => exact ⟨_, .base .non, kit_ty (show kitB "NoneType" "tuple" = some false by decide +kernel)⟩
  | bl x => exact ⟨_, .base (.bl x), kit_ty (show kitB "bool" "tuple" = some false by decide +kernel)⟩
  | int i => exact ⟨_, .base (.int i), kit_ty (show kitB "int" "tuple" = some false by decide +kernel)⟩
  | str x => exact ⟨_, .base (.str x), kit_ty (show kitB "str" "tuple" = some false by decide +kernel)⟩
  | _ => cases h
theorem Thing.ob {K : PySem.W.Frag} {C b g : Addr} {H : Hp} {v : V} (t : Thing K C b g H v) (I : BkI K C) : Ob K H v := by
  cases t with
  | sc h => exact scal_ob h
  | lst h => exact ob_lst h
  | dct h => exact ob_dct h
  | tup h => exact ⟨_, tyx_tup h, kit_ty (show kitB "tuple" "int" = some false by decide +kernel), kit_ty (show kitB "tuple" "bool" = some false by decide +kernel)⟩
  | ins h => exact ⟨_, I.ty _ _ _ _ h, I.i, I.b⟩
/-- a tuple of plain things, or no tuple -/
theorem Thing.obt {K : PySem.W.Frag} {C b g : Addr} {H : Hp} {v : V} (t : Thing K C b g H v) (I : BkI K C) : ObT K H v false ∨ (ObT K H v true ∧ ∃ a xs, v = .ref a ∧ SqT K H a xs ∧ (∀ x ∈ xs, scal x = true) ∧ xs.length ≤ 900000) := by
  cases t with
  | sc h => exact .inl (scal_obt h)
  | lst h => exact .inl ⟨_, .base (.lst h), kit_ty (show kitB "list" "tuple" = some false by decide +kernel)⟩
  | dct h => exact .inl ⟨_, .base (.dK h), kit_ty (show kitB "dict" "tuple" = some false by decide +kernel)⟩
  | tup h hx hl => exact .inr ⟨⟨_, tyx_tup h, kit_ty (by decide +kernel)⟩, _, _, rfl, h, hx, hl⟩
  | ins h => exact .inl ⟨_, I.ty _ _ _ _ h, I.t⟩
/-! ### a def whose code is known -/
theorem Fun.okC {P : Program} {w : World} {K : PySem.W.Frag} {mg : Str → Option Value} {base : Heap} {x qual : Str} {st : Stmt} {f : Addr} {fd : FuncData} {N ps : List Str} {k : Nat} {sp : Sp} {cv : Value} (F : Fun K x qual st f fd) (hc : fd.code = cv) (S : FnScope N ps (defScope st))
    (len : ∀ vs H Q E, sp vs H Q E → vs.length = ps.length)
    (body : ∀ (A : Around) (outer : List Env) (s : Shared) (H : Hp) (vs : List V) (Q : VK) (E : XK), Room k (A.deeper (envOfC qual (defScope st) s.heap.objs.size f cv)) → sp vs H Q E →
      ∃ t, PSs (cxOf CX0 P w K mg base N qual (defScope st) f cv A outer s H E).nox (defBody st) t ∧ t { nx := fun _ H' => Q .non H', rt := Q } (L2.start N vs) H) : FnOk P w K mg base CX0 (k + 1) f fd ps sp := by
  obtain ⟨oc, od, kV, doc, pm, an, cdv, ct, osl, rfl, lk, hcd⟩ := F.ex
  have e : cdv = cv := hc
  subst e
  exact fn_of lk hcd S len fun A outer s H vs Q E hr hsp => by
    obtain ⟨t, h1, h2⟩ := body A outer s H vs Q E hr hsp
    exact ⟨t, h1.nox, h2⟩
end Rip

/-! Standings: masks without others, is_standing, standing_mask, full_mask. -/
namespace Rip
open PySem PySem.Spec PyProof.Rows L2
/-- a def that stands and keeps its promise -/
def Has (P : Program) (w : World) (K : PySem.W.Frag) (mg : Str → Option Value) (base : Heap) (cx : CXT) (k : Nat) (nm : Str) (ps : List Str) (sp : Sp) : Prop :=
  ∃ f fd, FnOk P w K mg base cx k f fd ps sp ∧ PySem.W.keepIn K (.ref f) = true ∧ Binds K fd ps [] ∧ mg nm = some (.ref f)
/-- the bits of a that b hasn't -/
def lessM (a b : Nat) : Nat := a ^^^ (a &&& b)
theorem lessM_bit (a b j : Nat) : (lessM a b).testBit j = (a.testBit j && !b.testBit j) := by
  unfold lessM
  rw [Nat.testBit_xor, Nat.testBit_and]
  cases a.testBit j <;> cases b.testBit j <;> rfl
theorem band_not (a b : Nat) : Builtin.bitAnd (a : Int) (Builtin.bitNot (b : Int)) = ((lessM a b : Nat) : Int) := by
  have h1 : ¬ (0 : Int) ≤ Builtin.bitNot (b : Int) := by unfold Builtin.bitNot; omega
  have h2 : (Builtin.bitNot (Builtin.bitNot (b : Int))).toNat = b := by unfold Builtin.bitNot; omega
  unfold Builtin.bitAnd
  rw [decide_eq_true (by omega : (0 : Int) ≤ a), decide_eq_false h1]
  show (a : Int) - (((a : Int).toNat &&& (Builtin.bitNot (Builtin.bitNot (b : Int))).toNat : Nat) : Int) = _
  rw [h2, Int.toNat_natCast]
  have o : (a ||| (a &&& b)) = a := by
    apply Nat.eq_of_testBit_eq
    intro j
    rw [Nat.testBit_or, Nat.testBit_and]
    cases a.testBit j <;> cases b.testBit j <;> rfl
  have z := or_xor_and a (a &&& b)
  have y : (a &&& (a &&& b)) = (a &&& b) := by
    apply Nat.eq_of_testBit_eq
    intro j
    rw [Nat.testBit_and, Nat.testBit_and]
    cases a.testBit j <;> cases b.testBit j <;> rfl
  rw [o, y] at z
  unfold lessM
  omega
theorem lessM_zero {a b : Nat} : lessM a b = 0 ↔ ∀ j, a.testBit j = true → b.testBit j = true := by
  constructor
  · intro h j hj
    have z := lessM_bit a b j
    rw [h, Nat.zero_testBit, hj] at z
    cases e : b.testBit j with
    | true => rfl
    | false => rw [e] at z; cases z
  · intro h
    apply Nat.eq_of_testBit_eq
    intro j
    rw [lessM_bit, Nat.zero_testBit]
    cases e : a.testBit j with
    | false => rfl
    | true => rw [h j e]; rfl
theorem lessM_lt {a b n : Nat} (h : a < 2 ^ n) : lessM a b < 2 ^ n := by
  refine Nat.lt_pow_two_of_testBit _ fun i hi => ?_
  rw [lessM_bit, Nat.testBit_lt_two_pow (Nat.lt_of_lt_of_le h (Nat.pow_le_pow_right (by decide) hi))]
  rfl
/-- whether each of these has all that it needs among them -/
def closedB (f l : List Nat) : Bool := l.all fun c => decide (lessM (f.getD c 0) (maskOf l) = 0)
section
variable {P : Program} {w : World} {K : PySem.W.Frag} {mg : Str → Option Value} {base : Heap}
abbrev s_isst : Stmt := top 23
abbrev s_stm : Stmt := top 24
theorem maskOf_lt {l : List Nat} {n : Nat} (h : ∀ c ∈ l, c < n) : maskOf l < 2 ^ n := by
  refine Nat.lt_pow_two_of_testBit _ fun i hi => ?_
  rw [bit_maskOf]
  refine decide_eq_false fun z => ?_
  have := h i z
  omega
def spIsSt (K : PySem.W.Frag) (C : Addr) : Sp := fun vs H Q _ => ∃ (p : Addr) (v : V) (bl : List Nat) (ns : List (Nat × Nat)) (f : List Nat) (tp : Bool), vs = [.ref p, v] ∧ BookAt K C H p bl ns f ∧ bl.length ≤ 1000 ∧ ObT K H v tp ∧
  (tp = false → Q (.bl false) H) ∧
  (tp = true → ∃ (t : Addr) (xs : List V), v = .ref t ∧ SqT K H t xs ∧ (∀ x ∈ xs, Ob K H x) ∧ (lotGo bl.length (-1) xs = false → Q (.bl false) H) ∧
    ∀ l : List Nat, xs = l.map nV → l.Pairwise (· < ·) → (∀ c ∈ l, c < bl.length) → ∀ H', Same H H' → Q (.bl (closedB f l)) H')
abbrev scIsN : List Str := ["book", "thing", "there", "change"]
theorem scIs : FnScope scIsN ["book", "thing"] (defScope s_isst) := ⟨rfl, rfl, rfl, by decide +kernel, rfl, by decide +kernel, by decide +kernel⟩
theorem ok_isst {C f : Addr} {fd : FuncData} (F : Fun K "is_standing" "is_standing" s_isst f fd) (B : Blt mg) (T : BkT K mg C)
    (hO : Has P w K mg base CX0 4 "is_lot_below" ["bound", "thing"] (spIsLot K)) (hK : Has P w K mg base CX0 1 "mask_of" ["lot"] (spMaskOf K)) :
    FnOk P w K mg base CX0 5 f fd ["book", "thing"] (spIsSt K C) := by
  obtain ⟨fO, fdO, GO, kO, bO, gO⟩ := hO
  obtain ⟨fK, fdK, GK, kK, bK, gK⟩ := hK
  refine F.ok scIs (fun vs H Q E h => ?_) (fun cdv A outer s H vs Q E hr h => ?_)
  · obtain ⟨p, v, bl, ns, f, tp, rfl, _⟩ := h
    rfl
  · obtain ⟨p, v, bl, ns, fs, tp, rfl, hk, hn, ot, q0, q1⟩ := h
    obtain ⟨dx, b, a, t, h1, hb, ha, ht⟩ := hk.ob
    refine ⟨_,
      (pss_cons (ps_if (pt_not (pt_val (pe_call GO hr (by rfl) gO kO bO .nil pass0 (pa_cons (pe_callB call_len_seq (by rfl) B.len PySem.boot_len (pa_cons (pe_fld (pv 0) rfl) pa_nil)) (pa_cons (pv 1) pa_nil)))))
        (pss_one (ps_ret pe_bl)) pss_nil)
      (pss_cons (ps_set (i := 2) scIs.nd rfl (.inr rfl) (pe_call GK (hr.mono (by decide)) (by rfl) gK kK bK .nil pass0 (pa_cons (pv 1) pa_nil)))
      (pss_one (ps_ret (pe_callB (cr_all rfl) (by rfl) B.all PyProof.Rows.boot_all (pa_cons (pe_lc (own := [("change", 3)]) (g := gName 3) (tt := tYes)
        (te := tOp rEq (tOp (rI0 fun i j => .int (Builtin.bitAnd i j)) (tOp (rIxT K) (tFld K (tVar 0) "far") (tVar 3)) (tUn (rU fun i => .int (Builtin.bitNot i)) (tVar 2))) (tC (.int 0))) rfl scIs.nd (pi_tup (pv 1)) (blkOk_by (own := [("change", 3)]) (N := scIsN) (sc := defScope s_isst) (by decide +kernel)) (fun _ _ _ _ _ => (pg_name (i := 3) scIs.nd rfl (.inl rfl))) (fun _ _ _ _ _ => pts_nil)
        (fun _ _ _ _ _ => (pe_cmpR op_eq (pe_op op_and (pe_ix ix_tup (pe_fld (pv 0) rfl) (pv 3) (fun _ _ => rfl)) (pe_un un_inv (pv 2))) pe_int (nomark _)))) pa_nil)))))), ?_⟩
    refine ⟨_, rfl, p, C, dx, _, .ref b, rfl, h1, T.cl, T.nb, lk_blocks b a t, b, _, rfl, .inr hb, _, rfl, bl.length, v, tp, by rw [List.length_map]; rfl, ot, fun e => ⟨_, rfl, iteT (q0 e)⟩, fun e => ?_⟩
    obtain ⟨t1, xs, rfl, hS, ho, q2, q3⟩ := q1 e
    refine ⟨t1, xs, rfl, hS, ho, _, rfl, ?_⟩
    cases e2 : lotGo bl.length (-1) xs with
    | false => exact iteT (q2 e2)
    | true =>
      refine iteF ?_
      obtain ⟨l, rfl, asc, hin0⟩ := lotGo_nat bl.length xs (-1) e2
      have hin : ∀ c ∈ l, c < bl.length := fun c hc => (hin0 c hc).1
      have hll : l.length ≤ 1000 := Nat.le_trans (nodup_below (asc.imp fun {a b} h e => by omega) hin) hn
      have fl : fs.length = bl.length := hk.fars.len
      refine ⟨_, rfl, t1, l, rfl, hS, (fun i hi => by have := hin i hi; omega), ?_⟩
      dsimp only [gName]
      refine st_eq (σ' := [some (.ref p), some (.ref t1), some (nV (maskOf l)), none]) rfl ?_
      refine ⟨_, rfl, t1, rfl, ⟨_, hS⟩, fun D nD => ?_⟩
      refine lc_tup (K := K) (a := t1) (xs := l.map nV) (fun i H2 => Same H H2 ∧ H2 D = some (.lst (((l.take i).map fun c => decide (lessM (fs.getD c 0) (maskOf l) = 0)).map V.bl))) ⟨same_upd nD, upd_same⟩ (fun i H2 _ z => same_seqT z.1 hS) ?_ ?_
      · rintro i x H2 ex ⟨s2, eD⟩
        rw [List.getElem?_map] at ex
        cases ec : l[i]? with
        | none => rw [ec] at ex; cases ex
        | some c =>
          rw [ec] at ex
          cases ex
          have hc : c < fs.length := by rw [fl]; exact hin c (List.mem_of_getElem? ec)
          have ef : fs[c]? = some fs[c] := List.getElem?_eq_getElem hc
          generalize fs[c] = mk at ef
          refine ⟨rfl, _, rfl, p, C, dx, _, .ref t, rfl, s2 _ _ h1, T.cl, T.nf, lk_far b a t, ?_⟩
          refine ⟨_, rfl, t, _, _, nV mk, rfl, rfl, same_seqT s2 ht, at_of (j := c) rfl (map_get ef), _, rfl, _, rfl, _, _, rfl, rfl, rfl, _, eD, ?_, same_put s2 nD, ?_⟩
          · rw [List.length_map, List.length_map, List.length_take, sizeLine_eq]
            omega
          · rw [upd_same, take_one ec, List.map_append, List.map_append]
            have eA : V.bl (decide (V.int (Builtin.bitAnd ((mk : Nat) : Int) (Builtin.bitNot ((maskOf l : Nat) : Int))) = V.int 0)) = V.bl (decide (lessM (fs.getD c 0) (maskOf l) = 0)) := by
              rw [getD_some ef, band_not]
              exact congrArg V.bl (decide_eq_decide.mpr ⟨fun z => by injection z with z; omega, fun z => by rw [z]; rfl⟩)
            exact congrArg (fun z => some (HO.lst (_ ++ [z]))) eA
      · rintro H2 ⟨s2, eD⟩
        rw [List.length_map, List.take_length] at eD
        refine ⟨D, _, rfl, .inl (.inl eD), ?_⟩
        have e3 : ((l.map fun c => decide (lessM (fs.getD c 0) (maskOf l) = 0)).all id) = closedB fs l := by
          unfold closedB
          rw [List.all_map]
          rfl
        rw [e3]
        exact q3 l rfl asc hin H2 s2
/-! ### standing_mask -/
def spStm (K : PySem.W.Frag) (C CS : Addr) : Sp := fun vs H Q E => ∃ (p : Addr) (v : V) (bl : List Nat) (ns : List (Nat × Nat)) (f : List Nat) (tp : Bool), vs = [.ref p, v] ∧ BookAt K C H p bl ns f ∧ bl.length ≤ 1000 ∧ ObT K H v tp ∧
  (tp = false → E (.ref CS) none H) ∧
  (tp = true → ∃ (t : Addr) (xs : List V), v = .ref t ∧ SqT K H t xs ∧ (∀ x ∈ xs, Ob K H x) ∧ (lotGo bl.length (-1) xs = false → E (.ref CS) none H) ∧
    ∀ l : List Nat, xs = l.map nV → l.Pairwise (· < ·) → (∀ c ∈ l, c < bl.length) → ∀ H', Same H H' → (closedB f l = false → E (.ref CS) none H') ∧ (closedB f l = true → Q (nV (maskOf l)) H'))
abbrev scSmN : List Str := ["book", "standing"]
theorem scSm : FnScope scSmN ["book", "standing"] (defScope s_stm) := ⟨rfl, rfl, rfl, by decide +kernel, rfl, by decide +kernel, by decide +kernel⟩
theorem ok_stm {C CS f : Addr} {fd : FuncData} (F : Fun K "standing_mask" "standing_mask" s_stm f fd) (Er : ErT K mg "NoStanding" CS)
    (hI : Has P w K mg base CX0 5 "is_standing" ["book", "thing"] (spIsSt K C)) (hK : Has P w K mg base CX0 1 "mask_of" ["lot"] (spMaskOf K)) :
    FnOk P w K mg base (L2.CX P w) 6 f fd ["book", "standing"] (spStm K C CS) := by
  obtain ⟨fI, fdI, GI, kI, bI, gI⟩ := hI
  obtain ⟨fK, fdK, GK, kK, bK, gK⟩ := hK
  refine F.okX scSm (fun vs H Q E h => ?_) (fun cdv A outer s H vs Q E hr h => ?_)
  · obtain ⟨p, v, bl, ns, f, tp, rfl, _⟩ := h
    rfl
  · obtain ⟨p, v, bl, ns, fs, tp, rfl, hk, hn, ot, q0, q1⟩ := h
    refine ⟨_,
      (pss_cons (ps_if (pt_not (pt_val (pe_call GI hr (by rfl) gI kI bI .nil pass0 (pa_cons (pv 0) (pa_cons (pv 1) pa_nil)))))
        (pss_one (ps_raise rfl (takes_of rfl rfl rfl rfl) (pmk_own0 PySem.F.excBase_ValueError Er.x Er.g Er.k (raises_own Er.b Er.t) (by exact rfl)))) pss_nil)
      (pss_one (ps_ret (pe_call GK (hr.mono (by decide)) (by rfl) gK kK bK .nil pass0 (pa_cons (pv 1) pa_nil))))), ?_⟩
    refine ⟨_, rfl, _, rfl, p, v, bl, ns, fs, tp, rfl, hk, hn, ot, fun e => ⟨_, rfl, iteT (q0 e)⟩, fun e => ?_⟩
    obtain ⟨t1, xs, rfl, hS, ho, q2, q3⟩ := q1 e
    refine ⟨t1, xs, rfl, hS, ho, fun e2 => ⟨_, rfl, iteT (q2 e2)⟩, fun l ex asc hin H' s' => ⟨_, rfl, ?_⟩⟩
    obtain ⟨qa, qb⟩ := q3 l ex asc hin H' s'
    subst ex
    cases ec : closedB fs l with
    | false => exact iteT (qa ec)
    | true =>
      refine iteF ⟨_, rfl, t1, l, rfl, same_seqT s' hS, (fun i hi => by have := hin i hi; omega), qb ec⟩
/-! ### full_mask -/
def spFull : Sp := fun vs H Q _ => ∃ n : Nat, vs = [nV n] ∧ n ≤ 1000000 ∧ Q (nV (2 ^ n - 1)) H
end
end Rip

/-! set(..) of a list or a tuple of whole numbers, as a value. -/
namespace RipS
open PySem PySem.Spec PyProof.Rows L2
/-- an empty set, as set(..) begins with it -/
abbrev seed0 (w : World) : Obj := { cls := .type "set", dict := none, data := .set #[] 0 (.fresh 0 0 (!w.params.followText "set-order")) }
section
variable {P : Program} {w : World} {A : Around} {E : Value → Shared → Prop} {s : Shared}
theorem int_of {its : Array Value} {ns : List Int} (hv : IntsAre its.toList ns) {i : Nat} {v : Value} (e : its[i]? = some v) : ∃ k t, ns[i]? = some k ∧ v = .int k t := by
  obtain ⟨t, rfl⟩ := IntsAre.int_at hv i v (by rw [Array.getElem?_toList]; exact e)
  have hi : i < ns.length := by
    have z := IntsAre.length hv
    have y := (Array.getElem?_eq_some_iff.mp e).1
    rw [Array.length_toList] at z
    omega
  exact ⟨ns[i], t, List.getElem?_eq_getElem hi, by rw [List.getD_eq_getElem?_getD, List.getElem?_eq_getElem hi]; rfl⟩
/-- what set.__init__ leaves of a list of whole numbers -/
def Fed (w : World) (s : Shared) (ns : List Int) : Value → Shared → Prop := fun v z => v = .none ∧ ∃ (g : Heap) (k c : Nat), z = { s with heap := g, toks := k } ∧ SetR w g s.heap.objs.size (fun j => decide (j ∈ ns)) c ∧ ∀ b o, s.heap.get? b = some o → g.get? b = some o
theorem set_of_list {l : Addr} {its : Array Value} {ns : List Int} {Q : Value → Shared → Prop} (hh : A.handled = none) (hl : s.heap.IsList l its) (hv : IntsAre its.toList ns) (room : ns.length + 1 < scanBound)
    (q : ∀ (g : Heap) (k c : Nat), SetR w g s.heap.objs.size (fun j => decide (j ∈ ns)) c → (∀ b o, s.heap.get? b = some o → g.get? b = some o) → Q (.ref s.heap.objs.size) { s with heap := g, toks := k }) :
    wpAny (model P w) A (call (.type "set") [.ref l]) Q E s := by
  have fm := F.called_set
  obtain ⟨c0, t0, mro⟩ := fm.mro
  have made := fm.made
  have sub := fm.sub
  have nt := fm.notType
  have cc := fm.canCreate
  have ct := F.typeCall_set_1 (.ref l)
  have lk := fm.init.lookup
  have bd := fm.init.bind (.ref s.heap.objs.size)
  refine wpAny_call (codeAny_of_tree (wpAny_pure ⟨Code.quiet_builtin _ (by decide +kernel), codeAny_builtin F.entry_type_call ?_⟩))
  rw [Around.under_plain (weight_type_call_type "set" [.ref l] []) rfl]
  repeat (any_goals (first | assumption | wp_step))
  refine codeAny_mono (code_set_led1 (.ref l) (E := E) (Q₁ := fun x z => x = .ref s.heap.objs.size ∧ z = { s with heap := s.heap.push (seed0 w) }) ⟨rfl, rfl⟩) fun r z hr => ?_
  match r, hr with
  | .error e, hr => exact hr
  | .ok (.ret x), hr =>
    obtain ⟨rfl, rfl⟩ := hr
    have own : (s.heap.push (seed0 w)).get? s.heap.objs.size = some (seed0 w) := Heap.get?_push_size _ rfl
    have ty : Shared.TypeIs { s with heap := s.heap.push (seed0 w) } (.ref s.heap.objs.size) "set" := ⟨_, own, rfl⟩
    repeat (any_goals (first | assumption | wp_step))
    refine codeAny_mono (codeAny_call_builtin (R := wants (Fed w s ns) E) fm.init.plain F.entry_set_init (check_set_init_1 ty ?_)) fun r2 z2 hr2 => ?_
    · obtain ⟨⟨cls, dc, dt, sl⟩, hol, hcl, nl, hdl⟩ := hl
      simp only at hcl hdl
      subst hcl hdl
      have s1 := F.sub_list_set
      have s2 := F.sub_list_frozenset
      have s3 : (Value.type "list" == Value.type "dict") = false := by decide
      have hol1 := Heap.get?_push_of_some (seed0 w) hol
      have lst : (s.heap.push (seed0 w)).IsList l its := ⟨_, hol1, rfl, nl, rfl⟩
      unfold Builtin.«set.__init__» noKeywords Builtin.Frozenset.updateFrom
      generalize hp : pyIter = pI
      wp_walk
      subst hp
      refine wpAny_pyIter_list lst (wpAny_bind (wpAny_runValue ?_))
      have l0 := Heap.lt_size hol
      have sz : (s.heap.push (seed0 w)).objs.size = s.heap.objs.size + 1 := Heap.size_push ..
      have calm : A.in1.in1.in1.handled = none := by simp [hh]
      have nI : l ≠ (s.heap.push (seed0 w)).objs.size := by rw [sz]; exact Nat.ne_of_lt (Nat.lt_succ_of_lt l0)
      have out : s.heap.objs.size ∉ [(s.heap.push (seed0 w)).objs.size, l] := fun z => by
        rw [sz] at z
        rcases List.mem_cons.mp z with e | e
        · exact absurd e (Nat.ne_of_lt (Nat.lt_succ_self _))
        · exact absurd (List.mem_singleton.mp e) (Nat.ne_of_gt l0)
      have len : its.size = ns.length := by rw [← IntsAre.length hv, Array.length_toList]
      refine set_update_ints ((Walks.list calm _ l nI its).toS) s.heap.objs.size out ns len room (fun i v e => int_of hv e) (its.size - 0) 0 _ (by omega) (Nat.zero_le _)
        ⟨⟨_, Heap.get?_push_size _ rfl, rfl, rfl⟩, lst.push _⟩ ⟨0, Nat.le_refl 0, setR_new_at (Heap.get?_push_of_some _ own)⟩ fun z c' mv _ R => ?_
      obtain ⟨g, gg, dd, k, oo⟩ := z
      have e1 : gg = s.gens := mv.gens
      have e2 : dd = s.drawn := mv.drawn
      have e3 : oo = s.os := mv.os
      subst e1 e2 e3
      refine wpAny_pure (wpAny_pure ⟨rfl, g, k, c', rfl, R, fun b o e => ?_⟩)
      have b0 := Heap.lt_size e
      refine mv.heap b o (fun z => ?_) (Heap.get?_push_of_some _ (Heap.get?_push_of_some _ e))
      rw [sz] at z
      rcases List.mem_cons.mp z with y | y
      · exact Nat.ne_of_lt b0 y
      · exact absurd (List.mem_singleton.mp y) (Nat.ne_of_lt (Nat.lt_succ_of_lt b0))
    · match r2, hr2 with
      | .error e, hr2 => exact hr2
      | .ok (.ret x), hr2 =>
        obtain ⟨rfl, g, k, c', rfl, R, kp⟩ := hr2
        repeat (any_goals (first | assumption | wp_step))
        exact q g k c' R kp
end
def rSetI (K : PySem.W.Frag) (w : World) : List V → Hp → VK → Prop := fun xs H Q => ∃ (l : Addr) (ns : List Int), xs = [.ref l] ∧ (SqL K H l (ns.map V.int) ∨ SqT K H l (ns.map V.int)) ∧ ns.length ≤ 1000 ∧
  ∀ (p : Addr) (ms : List Int), ms.Nodup → (∀ k, k ∈ ms ↔ k ∈ ns) → H p = none → Q (.ref p) (upd H p (SetO w p (fun j => decide (j ∈ ns)) ms.length))
theorem setR_list {w : World} {h : Heap} {a : Addr} {S : Int → Bool} {n : Nat} (R : SetR w h a S n) : ∃ ms : List Int, ms.Nodup ∧ ms.length = n ∧ ∀ k, k ∈ ms ↔ S k = true := by
  obtain ⟨o, es, ep, t, h1, h2, h3, h4, nd, mem, h5, h6, hn, _⟩ := R
  exact ⟨es.toList.map keyOf, nd, by rw [List.length_map, Array.length_toList, hn], fun k => (mem k).symm⟩
theorem cr_setI {X : Cx} (hc : X.calm = true) : CallR X (.type "set") (rSetI X.K X.w) := by
  intro pins s σ H xs us Q I r h
  obtain ⟨l, ns, rfl, hq, hl, q⟩ := h
  rw [Vals.ref1 r]
  have fin : ∀ (g : Heap) (k c : Nat), SetR X.w g s.heap.objs.size (fun j => decide (j ∈ ns)) c → (∀ b o, s.heap.get? b = some o → g.get? b = some o) → EP X pins σ Q (.ref s.heap.objs.size) { s with heap := g, toks := k } := fun g k c R kp => by
    obtain ⟨ms, nd, hn, mem⟩ := setR_list R
    subst hn
    exact ⟨.ref _, upd H s.heap.objs.size (SetO X.w s.heap.objs.size (fun j => decide (j ∈ ns)) ms.length), I.laid (t' := k) kp (Nat.le_refl _) (setO_new R), rfl, q _ ms nd (fun k => by rw [mem k, decide_eq_true_eq]) (I.hok.fresh (Nat.le_refl _))⟩
  have room : ns.length + 1 < scanBound := by unfold scanBound; omega
  rcases hq with hq | hq
  · obtain ⟨its, rv, pl, hz⟩ := I.list hq
    exact set_of_list (I.ok.hd hc) pl.isList (by simpa using ints_of_vals rv) room fun g k c R kp => fin g k c R kp
  · obtain ⟨its, rv, pt, hz⟩ := I.tuple hq
    exact call_set_tupI ns (I.ok.hd hc) (show s.heap.IsTuple l its.toArray from pt) (by simpa using ints_of_vals rv) room fun g k c R _ kp => fin g k c R kp
theorem in_or {X : Cx} : InOp X .BitOr (rI0 fun i j => .int (Builtin.bitOr i j)) := fun pins s σ H x y u v Q I rx ry h => iop_or pins s σ H x y u v Q I rx ry h
theorem boot_setI : bootBuiltins "set" = some (.type "set") := by decide +kernel
theorem boot_sortedI : bootBuiltins "sorted" = some (.builtin "sorted") := by decide +kernel
end RipS

/-! sorted(t), t a tuple of whole numbers. -/
namespace RipS
open PySem PySem.Spec PyProof.Rows L2 Srt SrtO
section
variable {prog : Program} {w : World} {A : Around} {E : Value → Shared → Prop} {s : Shared}
/-- a list of a tuple's items is gathered -/
theorem gather_tup {b : Addr} {d : Option Addr} {vs : List Value} {m : Nat} {sl : Array (Option Value)} {Q : List Value → Shared → Prop}
    (hb : s.heap.get? b = some { cls := .type "tuple", dict := d, data := .seq vs.toArray m, slots := sl }) (hz : vs.length ≤ sizeLine)
    (h : Q vs { s with heap := (s.heap.push (seqObj "list" #[] 0)).update s.heap.objs.size (Obj.mapSeq (· ++ vs.toArray)) }) : wpAny (model prog w) A (collect (.ref b)) Q E s := by
  have hb2 := Heap.get?_push_of_some (seqObj "list" #[] 0) hb
  have hl : (s.heap.push (seqObj "list" #[] 0)).get? s.heap.objs.size = some (seqObj "list" #[] 0) := Heap.get?_push_size _ rfl
  have hz2 : ((#[] : Array Value) ++ vs.toArray).size ≤ sizeLine + 1 := by
    rw [Array.size_append, List.size_toArray]
    show 0 + vs.length ≤ _
    omega
  unfold collect
  refine wpAny_bind <| wpAny_runValue <| codeAny_builtin entry_proto_collect' ?_
  show wpAny (model prog w) _ (newList [] >>= fun l => again (.builtin "list.__iadd__" ⟨[l, .ref b], []⟩)) _ _ s
  refine wpAny_bind <| wpAny_newList <| wpAny_pure ⟨Code.quiet_builtin _ (by decide +kernel), codeAny_builtin entry_list_iadd' ?_⟩
  show wpAny (model prog w) _ (Builtin.List.listExtendWith (.ref s.heap.objs.size) (.ref b) (.ref s.heap.objs.size)) _ _ { s with heap := s.heap.push (seqObj "list" #[] 0) }
  unfold Builtin.List.listExtendWith
  refine wpAny_bind <| wpAny_typeOf (T := "tuple") ⟨_, hb2, rfl⟩ ?_
  rw [if_pos (by simp)]
  refine wpAny_bind <| listItems_at hb2 rfl ?_
  refine wpAny_bind <| listItems_at hl rfl ?_
  rw [if_neg (by simp)]
  refine wpAny_bind <| listUpdate_at hl rfl (wpAny_pure ?_) (Nat.zero_le _) hz2
  show wpAny (model prog w) A (load s.heap.objs.size >>= fun o => match o.data with
    | .seq xs _ => pure xs.toList
    | _ => unsupported "internal:collect") Q E _
  refine wpAny_bind <| wpAny_load (get?_update_seq hl _) ?_
  have e : ((#[] : Array Value) ++ vs.toArray).toList = vs := by simp
  show wpAny (model prog w) A (pure ((#[] : Array Value) ++ vs.toArray).toList) Q E _
  rw [e]
  exact wpAny_pure h
/-- as for a list: the new one stands behind the gathered one -/
theorem sorted_tup {b : Addr} {d : Option Addr} {vs : List Value} {ns : List Int} {m : Nat} {sl : Array (Option Value)} {Q : Value → Shared → Prop}
    (hb : s.heap.get? b = some { cls := .type "tuple", dict := d, data := .seq vs.toArray m, slots := sl }) (hz : vs.length ≤ sizeLine) (hI : IntsAre vs ns)
    (h : ∀ out : List Value, Srtd ltIv out → Stb ltIv out vs → Q (.ref (s.heap.objs.size + 1)) { s with heap := sortedAll s.heap vs out.toArray }) : wpAny (model prog w) A (call (.builtin "sorted") [.ref b]) Q E s := by
  refine Calls.call_function_entry kind_sorted plain_sorted entry_sorted (args_sorted1 _) ?_
  unfold Builtin.«sorted»
  have up := Heap.get?_push_size ((s.heap.push (seqObj "list" #[] 0)).update s.heap.objs.size (Obj.mapSeq (· ++ vs.toArray))) (o := seqObj "list" vs.toArray 0) rfl
  have sz : ((s.heap.push (seqObj "list" #[] 0)).update s.heap.objs.size (Obj.mapSeq (· ++ vs.toArray))).objs.size = s.heap.objs.size + 1 := (Heap.size_update ..).trans (size_push' ..)
  rw [sz] at up
  refine wpAny_bind (m := checkCount "sorted" 1 1 _) <| wpAny_pure <| wpAny_bind <| gather_tup hb hz <| wpAny_bind <| wpAny_newList ?_ hz
  show wpAny (model prog w) _ _ _ _ { s with heap := ((s.heap.push (seqObj "list" #[] 0)).update s.heap.objs.size (Obj.mapSeq (· ++ vs.toArray))).push (seqObj "list" vs.toArray 0) }
  rw [sz]
  exact wpAny_bind <| wpAny_holding <| wpAny_call_entry slot_list_sort ⟨_, up, rfl⟩ entry_list_sort (list_sort_ord swo_int up hz (fun h2 => ints_sortable hI h2) fun out hs hb => ⟨_, rfl, wpAny_pure ⟨_, rfl, h out hs hb⟩⟩) (args_list_sort _)
end
def rSortedTI (K : PySem.W.Frag) : List V → Hp → VK → Prop := fun vs H Q => ∃ (a : Addr) (ns : List Int), vs = [V.ref a] ∧ SqT K H a (ns.map V.int) ∧ ∀ (ns' : List Int) (p : Addr), ns'.Perm ns → ns'.Pairwise (· ≤ ·) → H p = none → Q (.ref p) (upd H p (.lst (ns'.map V.int)))
theorem cr_sortedTI {X : Cx} : CallR X (.builtin "sorted") (rSortedTI X.K) := by
  intro pins s σ H vs us Q I r h
  obtain ⟨a, ns, rfl, hs, q⟩ := h
  obtain ⟨its, rv, ⟨⟨cls, dd, dt, sl⟩, ho, hc, m, hd⟩, hz⟩ := I.tuple hs
  simp only at hc hd
  subst hc hd
  rw [Vals.ref1 r]
  have hi := rv.ints
  have hz2 : its.length ≤ sizeLine := by rw [← rv.length]; exact hz
  refine sorted_tup ho hz2 hi fun out h1 h2 => ?_
  obtain ⟨k1, k2, k3⟩ := ints_out hi h1 h2
  obtain ⟨ep, he⟩ := PyProof.Rows.sortedAll_at s.heap its out.toArray
  have hlen : ((out.map iv).map V.int).length ≤ sizeLine := by
    have z := k2.length_eq
    rw [List.length_map] at hz ⊢
    omega
  refine ⟨.ref _, upd H (s.heap.objs.size + 1) (.lst ((out.map iv).map V.int)), ?_, rfl, q _ _ k2 k3 (I.hok.fresh (Nat.le_succ _))⟩
  exact I.laid (t' := s.toks) (fun _ _ => PyProof.Rows.sortedAll_old) (Nat.le_succ _) ⟨hlen, out, ep, vals_of_ints k1, he⟩
end RipS

/-! name = {k: v for ..}, the name a plain local. -/
namespace RipS
open PySem PySem.Spec PyProof.Rows L2
theorem sw_dict {kx vx : Expr} {gs : List Comprehension} {sc : Scope} {pos py : Pos} {y : Str} {l : Nat} {env : Env} (kd : env.scope.kind = .function) (loc : env.scope.names.lookup y = some .local) (row : (py.line == pos.line) = true)
    (no : (sc.names.any fun (n, k) => n == y && (k == .local || k == .cell)) = false) : swapsWith (.DictComp kx vx gs sc pos) (some (.Name y py)) l env = pure true := by
  have e1 : env.kindOf y = some .local := loc
  have e2 : env.blockKind = .function := by unfold Env.blockKind; rw [kd]; rfl
  unfold swapsWith
  simp only [e1, e2, no, Expr.pos, row]
  rfl
section
variable {X : Cx} {kx vx tg iter : Expr} {ifs : List Expr} {sc : Scope} {own : List (Str × Nat)} {pos spos py : Pos} {wi : TI} {g : TG} {tt : TT} {tk tv : TE} {i : Nat} {y : Str}
theorem ps_setDc (calm : X.calm = true) (nd : X.N.Nodup) (at_ : X.N[i]? = some y) (loc : X.env.scope.names.lookup y = some .local) (sw : swapsWith (.DictComp kx vx [⟨tg, iter, ifs, 0⟩] sc pos) (some (.Name y py)) spos.line X.env = pure true)
    (hi : PI X tg iter wi) (ok : BlkOk X.N X.env.scope sc own) (hg : ∀ (s : Shared) (H : Hp) (C : Addr) (cl : List (Str × Addr)) (fp : List Addr), PG (X.blk s H sc (compEnvC sc cl C X.env) fp) tg g)
    (ht : ∀ (s : Shared) (H : Hp) (C : Addr) (cl : List (Str × Addr)) (fp : List Addr), PTs (X.blk s H sc (compEnvC sc cl C X.env) fp) ifs tt) (hk : ∀ (s : Shared) (H : Hp) (C : Addr) (cl : List (Str × Addr)) (fp : List Addr), PE (X.blk s H sc (compEnvC sc cl C X.env) fp) kx tk)
    (hv : ∀ (s : Shared) (H : Hp) (C : Addr) (cl : List (Str × Addr)) (fp : List Addr), PE (X.blk s H sc (compEnvC sc cl C X.env) fp) vx tv) (fs : ∀ x, foldedSetIterable iter X.env x = pure x := by intro _; rfl) :
    PS X (.Assign [.Name y py] (.DictComp kx vx [⟨tg, iter, ifs, 0⟩] sc pos) spos) (tAsg (tDc wi g tt tk tv (own.map (·.2))) (gName i)) := by
  refine ⟨fun pins s σ H D I h => ?_⟩
  have h1 : tDc wi g tt tk tv (own.map (·.2)) σ H (fun x H1 => gName i x σ H1 D.nx) := h
  rw [exec_Assign_Name_used _ _ _ _ sw]
  refine wpAny_bind (wpAny_standAt (wpAny_bind ?_))
  show wpAny _ X.A (comprehension (.DictComp kx vx [⟨tg, iter, ifs, 0⟩] sc pos) sc X.env (firstIterPos [⟨tg, iter, ifs, 0⟩] pos) newDict false (eval iter X.env) (some (assign (.Name y py) X.env)) >>= fun _ => _) _ _ s
  refine wpAny_bind (thn (dc_core (Qf := fun _ z => SP X pins D .next z) calm nd I hi ok hg ht hk hv fs h1 fun d C z m H' J q ns f => ?_) fun _ z hq => wpAny_pure (wpAny_pure hq))
  obtain ⟨f0, f1, f2, f3, f4, f5⟩ := f
  show wpAny _ _ (assign (.Name y py) X.env (.ref d)) _ _ _
  refine wpAny_assign_Name (store_ok2 (v := V.ref d) J nd at_ (.inl loc) rfl (fun z2 J2 ⟨a, sb, ha⟩ => ?_) (.inr loc))
  have far : C ≠ a := ha.elim (fun z => z ▸ f1) fun z e => f4 y a z e.symm
  exact ⟨m, ns.sameBut sb far, fun h3 sb3 => ⟨_, H', J2.turned (t' := z2.toks) (fun b o hb e => (sb3.2 b hb).trans e) f0 f1 f3 f4 f5, q⟩⟩
end
end RipS

/-! Standings: the masks of blocks, what a write brings. -/
namespace Rip
open PySem PySem.Spec PyProof.Rows L2 RipS
theorem maskOf_snoc (l : List Nat) (c : Nat) : maskOf (l ++ [c]) = (maskOf l ||| 2 ^ c) := by
  unfold maskOf
  rw [List.foldl_append]
  rfl
/-- the mask of the changes below k that lie in b -/
def blkM (bl : List Nat) (b k : Nat) : Nat := maskOf ((List.range k).filter fun c => decide (bl.getD c 0 = b))
theorem blkM_succ {bl : List Nat} {k x : Nat} (b : Nat) (h : bl[k]? = some x) : blkM bl b (k + 1) = if x = b then (blkM bl b k ||| 2 ^ k) else blkM bl b k := by
  unfold blkM
  rw [List.range_succ, List.filter_append, List.filter_cons, getD_some h]
  by_cases e : x = b
  · rw [if_pos (decide_eq_true e), if_pos e]
    exact maskOf_snoc _ _
  · rw [if_neg (by simpa using e), if_neg e, List.filter_nil, List.append_nil]
theorem blkM_lt (bl : List Nat) (b k : Nat) : blkM bl b k < 2 ^ k := maskOf_lt fun c hc => List.mem_range.mp (List.mem_filter.mp hc).1
theorem blkM_bit (bl : List Nat) (b k c : Nat) : (blkM bl b k).testBit c = decide (c < k ∧ bl.getD c 0 = b) := by
  unfold blkM
  rw [bit_maskOf]
  exact decide_eq_decide.mpr ⟨fun h => ⟨List.mem_range.mp (List.mem_filter.mp h).1, of_decide_eq_true (List.mem_filter.mp h).2⟩, fun h => List.mem_filter.mpr ⟨List.mem_range.mpr h.1, decide_eq_true h.2⟩⟩
/-- what a write of the block of the mask i brings to t -/
def brL (f : List Nat) (i t : Nat) : List Nat := (lotOf (lessM i t)).filter fun c => decide (lessM (f.getD c 0) (t ||| i) = 0)
def brOf (f : List Nat) (i t : Nat) : Nat := maskOf (brL f i t)
theorem brOf_bit (f : List Nat) (i t c : Nat) : (brOf f i t).testBit c = true ↔ i.testBit c = true ∧ t.testBit c = false ∧ lessM (f.getD c 0) (t ||| i) = 0 := by
  unfold brOf brL
  rw [bit_maskOf, decide_eq_true_eq, List.mem_filter, mem_lotOf, lessM_bit, decide_eq_true_eq, Bool.and_eq_true, Bool.not_eq_true', and_assoc]
theorem brOf_lt {f : List Nat} {i t n : Nat} (h : i < 2 ^ n) : brOf f i t < 2 ^ n := maskOf_lt fun c hc => by
  have z := (List.mem_filter.mp hc).1
  rw [mem_lotOf, lessM_bit, Bool.and_eq_true] at z
  by_cases y : c < n
  · exact y
  · rw [Nat.testBit_lt_two_pow (Nat.lt_of_lt_of_le h (Nat.pow_le_pow_right (by decide) (by omega)))] at z
    cases z.1
theorem putK_new {κ : Type} [DecidableEq κ] {kvs : List (κ × V)} {k : κ} {v : V} (h : ∀ p ∈ kvs, p.1 ≠ k) : putK kvs k v = kvs ++ [(k, v)] := by
  unfold putK
  rw [if_neg]
  intro z
  obtain ⟨p, hp, e⟩ := List.any_eq_true.mp z
  exact h p hp (of_decide_eq_true e)
/-- pairs of keys and values, one of them exchanged -/
theorem putK_map {α : Type} (k : α → Key) (hk : ∀ x y, k x = k y → x = y) (v u : α → V) (x : α) (ks : List α) (h : x ∈ ks) (hu : ∀ y ∈ ks, y ≠ x → u y = v y) : putK (ks.map fun y => (k y, v y)) (k x) (u x) = ks.map fun y => (k y, u y) := by
  unfold putK
  rw [if_pos (List.any_eq_true.mpr ⟨(k x, v x), List.mem_map.mpr ⟨x, h, rfl⟩, decide_eq_true rfl⟩), List.map_map]
  refine List.map_congr_left fun y hy => ?_
  show (if k y = k x then (k y, u x) else (k y, v y)) = _
  by_cases e : k y = k x
  · rw [if_pos e, hk _ _ e]
  · rw [if_neg e, hu y hy (fun z => e (by rw [z]))]
theorem valV_map {α : Type} (k : α → Key) (hk : ∀ x y, k x = k y → x = y) (v : α → V) (x : α) : ∀ (ks : List α), x ∈ ks → valV (ks.map fun y => (k y, v y)) (k x) = some (v x) := by
  intro ks
  induction ks with
  | nil => exact fun h => nomatch h
  | cons a ks ih =>
    intro h
    rw [List.map_cons]
    by_cases e : k a = k x
    · rw [valV_pos e, hk _ _ e]
    · rw [valV_neg e]
      refine ih ?_
      rcases List.mem_cons.mp h with z | z
      · exact absurd (by rw [z]) e
      · exact z
/-- a number as a key -/
abbrev kN (b : Nat) : Key := Sum.inl (b : Int)
theorem kN_inj (x y : Nat) (h : kN x = kN y) : x = y := by
  injection h with h
  omega
/-- at D the dict of a book's blocks -/
structure MasksAt (H : Hp) (D : Addr) (bl : List Nat) (ks : List Nat) : Prop where
  asc : ks.Pairwise (· < ·)
  mem : ∀ b, b ∈ ks ↔ b ∈ bl
  at_ : H D = some (.dK (ks.map fun b => (kN b, nV (blkM bl b bl.length))))
theorem MasksAt.same {H H' : Hp} {D : Addr} {bl ks : List Nat} (m : MasksAt H D bl ks) (s : Same H H') : MasksAt H' D bl ks := ⟨m.asc, m.mem, s _ _ m.at_⟩
theorem MasksAt.get {H : Hp} {D : Addr} {bl ks : List Nat} {b : Nat} (m : MasksAt H D bl ks) (h : b ∈ bl) : DGet H D (.int (b : Int)) (some (nV (blkM bl b bl.length))) := by
  have z := DGet.k (k := kN b) m.at_
  rw [valV_map kN kN_inj (fun b => nV (blkM bl b bl.length)) b ks ((m.mem b).mpr h)] at z
  exact z
section
variable {P : Program} {w : World} {K : PySem.W.Frag} {mg : Str → Option Value} {base : Heap}
abbrev s_bm : Stmt := top 25
abbrev s_br : Stmt := top 26
/-! ### brought -/
abbrev spLotB : Sp := fun vs H Q E => spLotOf vs H Q E ∧ ∃ m, vs = [nV m] ∧ m < 2 ^ 900000
theorem small_900 {m n : Nat} (h : m < 2 ^ n) (hn : n ≤ 1000) : m < 2 ^ 900000 := Nat.lt_of_lt_of_le h (Nat.pow_le_pow_right (by decide) (by omega))
def spBr (K : PySem.W.Frag) (C : Addr) : Sp := fun vs H Q _ => ∃ (p : Addr) (i t : Nat) (bl : List Nat) (ns : List (Nat × Nat)) (f : List Nat), vs = [.ref p, nV i, nV t] ∧ BookAt K C H p bl ns f ∧ bl.length ≤ 1000 ∧ i < 2 ^ bl.length ∧ ∀ H', Same H H' → Q (nV (brOf f i t)) H'
abbrev scBrN : List Str := ["book", "inside", "there", "outside", "mask", "change"]
theorem scBr : FnScope scBrN ["book", "inside", "there"] (defScope s_br) := ⟨rfl, rfl, rfl, by decide +kernel, rfl, by decide +kernel, by decide +kernel⟩
theorem ok_br {C f : Addr} {fd : FuncData} (F : Fun K "brought" "brought" s_br f fd) (T : BkT K mg C) (hL : Has P w K mg base CX0 1 "lot_of" ["mask"] spLotB) :
    FnOk P w K mg base CX0 2 f fd ["book", "inside", "there"] (spBr K C) := by
  obtain ⟨fL, fdL, GL, kL, bL, gL⟩ := hL
  refine F.ok scBr (fun vs H Q E h => ?_) (fun cdv A outer s H vs Q E hr h => ?_)
  · obtain ⟨p, i, t, bl, ns, f, rfl, _⟩ := h
    rfl
  · obtain ⟨p, i, t, bl, ns, fs, rfl, hk, hn, hi, q⟩ := h
    obtain ⟨dx, b, a, tf, h1, hb, ha, ht⟩ := hk.ob
    refine ⟨_,
      (pss_cons (ps_set (i := 3) scBr.nd rfl (.inl rfl) (pe_un un_inv (pe_op op_or (pv 2) (pv 1))))
      (pss_cons (ps_set (i := 4) scBr.nd rfl (.inl rfl) pe_int)
      (pss_cons (ps_for PassesOwn.never rfl (pi_tup (pe_call GL hr (by rfl) gL kL bL .nil pass0 (pa_cons (pe_op op_and (pv 1) (pe_un un_inv (pv 2))) pa_nil))) (pg_name (i := 5) scBr.nd rfl (.inl rfl))
        (pss_one (ps_if (pt_cmpR op_eq (pe_op op_and (pe_ix ix_tup (pe_fld (pv 0) rfl) (pv 5) (fun _ _ => rfl)) (pv 3)) pe_int (nomark _))
          (pss_one (ps_aug (i := 4) scBr.nd rfl (.inl rfl) (pe_op op_shl pe_int (pv 5)) pip_or)) pss_nil)))
      (pss_one (ps_ret (pv 4)))))), ?_⟩
    refine ⟨_, rfl, _, rfl, _, _, rfl, rfl, _, rfl, ?_⟩
    dsimp only [gName]
    rw [bor_nat]
    refine st_eq (σ' := [some (.ref p), some (nV i), some (nV t), some (.int (Builtin.bitNot (((t ||| i) : Nat) : Int))), none, none]) rfl ?_
    have eA : [V.int (Builtin.bitAnd ((i : Nat) : Int) (Builtin.bitNot ((t : Nat) : Int)))] = [nV (lessM i t)] := congrArg (fun z => [V.int z]) (band_not i t)
    have hm : lessM i t < 2 ^ bl.length := lessM_lt hi
    refine ⟨_, rfl, _, rfl, _, rfl, _, _, rfl, rfl, ⟨lessM i t, eA, fun t2 H2 s2 n2 e2 => ?_⟩, lessM i t, eA, small_900 hm hn⟩
    refine ⟨t2, rfl, ⟨_, .inl (.inl e2)⟩, for_it (walk_tup (K := K) (a := t2) (xs := (lotOf (lessM i t)).map nV)) (fun k σ H3 => H3 = H2 ∧ ∃ v : Option V, σ = [some (.ref p), some (nV i), some (nV t), some (.int (Builtin.bitNot (((t ||| i) : Nat) : Int))), some (nV (maskOf (((lotOf (lessM i t)).take k).filter fun c => decide (lessM (fs.getD c 0) (t ||| i) = 0)))), v])
      ⟨rfl, none, rfl⟩ (fun k σ H3 _ z => z.1 ▸ .inl (.inl e2)) ?_ ?_⟩
    · rintro k x σ H3 H4 hk3 ⟨rfl, v, rfl⟩ ⟨rfl, ex⟩
      rw [List.getElem?_map] at ex
      cases ec : (lotOf (lessM i t))[k]? with
      | none => rw [ec] at ex; cases ex
      | some c =>
        rw [ec] at ex
        cases ex
        have hc : c < bl.length := by
          have z := List.mem_of_getElem? ec
          rw [mem_lotOf] at z
          by_cases y : c < bl.length
          · exact y
          · rw [Nat.testBit_lt_two_pow (Nat.lt_of_lt_of_le hm (Nat.pow_le_pow_right (by decide) (by omega)))] at z
            cases z
        have hcl : c < fs.length := by rw [hk.fars.len]; exact hc
        have ef : fs[c]? = some fs[c] := List.getElem?_eq_getElem hcl
        generalize fs[c] = mk at ef
        refine ⟨_, rfl, p, C, dx, _, .ref tf, rfl, s2 _ _ h1, T.cl, T.nf, lk_far b a tf, ?_⟩
        refine ⟨_, rfl, tf, _, _, nV mk, rfl, rfl, same_seqT s2 ht, at_of (j := c) rfl (map_get ef), _, rfl, _, _, rfl, rfl, rfl, _, rfl, ?_⟩
        have eD : decide (V.int (Builtin.bitAnd ((mk : Nat) : Int) (Builtin.bitNot (((t ||| i) : Nat) : Int))) = V.int 0) = decide (lessM (fs.getD c 0) (t ||| i) = 0) := by
          rw [getD_some ef, band_not]
          exact decide_eq_decide.mpr ⟨fun z => by injection z with z; omega, fun z => by rw [z]; rfl⟩
        show if decide (V.int (Builtin.bitAnd ((mk : Nat) : Int) (Builtin.bitNot (((t ||| i) : Nat) : Int))) = V.int 0) = true then _ else _
        rw [eD]
        have tk : (((lotOf (lessM i t)).take (k + 1)).filter fun c => decide (lessM (fs.getD c 0) (t ||| i) = 0)) = (((lotOf (lessM i t)).take k).filter fun c => decide (lessM (fs.getD c 0) (t ||| i) = 0)) ++ (if decide (lessM (fs.getD c 0) (t ||| i) = 0) = true then [c] else []) := by
          rw [take_one ec, List.filter_append, List.filter_cons]
          rfl
        refine ite_ok (fun hz => ?_) fun hz => ?_
        · rw [if_pos (decide_eq_true hz)] at tk
          refine ⟨_, rfl, _, rfl, _, _, rfl, rfl, ⟨by omega, by omega, by decide⟩, _, _, rfl, rfl, rfl, some (nV c), ?_⟩
          have e3 : (1 : Int) * 2 ^ ((c : Int)).toNat = ((2 ^ c : Nat) : Int) := by
            rw [Int.toNat_natCast]
            simp
          rw [tk, maskOf_snoc]
          show [some (V.ref p), some (nV i), some (nV t), _, some (V.int (Builtin.bitOr _ ((1 : Int) * 2 ^ ((c : Int)).toNat))), some (nV c)] = _
          rw [e3, bor_nat]
        · rw [if_neg (by simpa using hz), List.append_nil] at tk
          exact ⟨rfl, some (nV c), by rw [tk]; rfl⟩
    · rintro σ H3 ⟨rfl, v, rfl⟩
      rw [List.length_map, List.take_length]
      exact ⟨_, rfl, q H3 s2⟩
/-! ### block_masks -/
def spBm (K : PySem.W.Frag) (C : Addr) : Sp := fun vs H Q _ => ∃ (p : Addr) (bl : List Nat) (ns : List (Nat × Nat)) (f : List Nat), vs = [.ref p] ∧ BookAt K C H p bl ns f ∧ bl.length ≤ 1000 ∧ (∀ b ∈ bl, b < 60) ∧ ∀ (D : Addr) (ks : List Nat) (H' : Hp), Same H H' → H D = none → MasksAt H' D bl ks → Q (.ref D) H'
abbrev scBmN : List Str := ["book", "masks", "block", "change"]
theorem scBm : FnScope scBmN ["book"] (defScope s_bm) := ⟨rfl, rfl, rfl, by decide +kernel, rfl, by decide +kernel, by decide +kernel⟩
theorem nats_of {bl : List Nat} {ns : List Int} (h : ∀ k ∈ ns, k ∈ bl.map fun x : Nat => (x : Int)) : ∃ ks : List Nat, ns = ks.map fun x : Nat => (x : Int) := by
  refine ⟨ns.map Int.toNat, ?_⟩
  rw [List.map_map]
  refine (List.map_id' ns).symm.trans (List.map_congr_left fun k hk => ?_)
  obtain ⟨x, _, rfl⟩ := List.mem_map.mp (h k hk)
  rfl
theorem map_nV (l : List Nat) : l.map nV = (l.map fun x : Nat => (x : Int)).map V.int := by
  rw [List.map_map]
  rfl
theorem ok_bm {C f : Addr} {fd : FuncData} (F : Fun K "block_masks" "block_masks" s_bm f fd) (B : Blt mg) (hst : mg "set" = none) (hsr : mg "sorted" = none) (T : BkT K mg C) :
    FnOk P w K mg base CX0 1 f fd ["book"] (spBm K C) := by
  refine F.ok scBm (fun vs H Q E h => ?_) (fun cdv A outer s H vs Q E hr h => ?_)
  · obtain ⟨p, bl, ns, f, rfl, _⟩ := h
    rfl
  · obtain ⟨p, bl, ns, fs, rfl, hk, hn, h60, q⟩ := h
    have hu := hu_of hr
    obtain ⟨dx, b, a, tf, h1, hb, ha, ht⟩ := hk.ob
    refine ⟨_,
      (pss_cons (ps_setDc (i := 1) (own := [("block", 2)]) (g := gName 2) (tt := tYes) rfl scBm.nd rfl rfl (sw_dict rfl rfl rfl (by decide +kernel)) (pi_list (pe_callB (cr_sortedSet rfl) (by rfl) hsr boot_sortedI (pa_cons (pe_callTy (cr_setI rfl) (by rfl) hst boot_setI (pa_cons (pe_fld (pv 0) rfl) pa_nil)) pa_nil)))
        (blkOk_by (own := [("block", 2)]) (N := scBmN) (sc := defScope s_bm) (by decide +kernel)) (fun _ _ _ _ _ => (pg_name (i := 2) scBm.nd rfl (.inl rfl))) (fun _ _ _ _ _ => pts_nil) (fun _ _ _ _ _ => (pv 2)) (fun _ _ _ _ _ => pe_int))
      (pss_cons (ps_for PassesOwn.never rfl (pi_enumT (by rfl) B.enumerate (pa_cons (pe_fld (pv 0) rfl) pa_nil)) (pg_tup rfl (pgs_cons (pg_name (i := 3) scBm.nd rfl (.inl rfl)) (pgs_cons (pg_name (i := 2) scBm.nd rfl (.inl rfl)) pgs_nil)))
        (pss_one (ps_daug hu (pv 1) (pv 2) (pe_op op_shl pe_int (pv 3)) in_or (fun _ _ _ => rfl))))
      (pss_one (ps_ret (pv 1))))), ?_⟩
    refine ⟨_, rfl, p, C, dx, _, .ref b, rfl, h1, T.cl, T.nb, lk_blocks b a tf, ?_⟩
    refine ⟨b, bl.map fun x : Nat => (x : Int), rfl, .inr (by rw [← map_nV]; exact hb), by rw [List.length_map]; exact hn, fun S ms nd mem nS => ?_⟩
    have hms : ms.length < 64 := by
      have z := nodup_below (n := 60) (D := ms.map Int.toNat) (List.pairwise_map.mpr (nd.imp_of_mem fun {x y} hx hy h e => ?_)) fun d hd => ?_
      · rw [List.length_map] at z
        omega
      · obtain ⟨x1, _, rfl⟩ := List.mem_map.mp ((mem x).mp hx)
        obtain ⟨y1, _, rfl⟩ := List.mem_map.mp ((mem y).mp hy)
        exact h (congrArg (fun z : Nat => (z : Int)) e)
      · obtain ⟨x, hx, rfl⟩ := List.mem_map.mp hd
        obtain ⟨x1, hx1, rfl⟩ := List.mem_map.mp ((mem x).mp hx)
        exact h60 x1 hx1
    refine ⟨S, _, ms.length, rfl, upd_same, hms, fun ls L asc memL lenL nL => ?_⟩
    obtain ⟨ks, rfl⟩ := nats_of (bl := bl) (ns := ls) fun k hk => by
      have z := (memL k).mp hk
      exact of_decide_eq_true z
    have ascK : ks.Pairwise (· < ·) := (List.pairwise_map.mp asc).imp fun h => by omega
    have memK : ∀ x, x ∈ ks ↔ x ∈ bl := fun x => by
      have z := memL (x : Int)
      rw [decide_eq_true_eq, List.mem_map, List.mem_map] at z
      constructor
      · intro h
        obtain ⟨y, hy, e⟩ := z.mp ⟨x, h, rfl⟩
        have : y = x := by omega
        exact this ▸ hy
      · intro h
        obtain ⟨y, hy, e⟩ := z.mpr ⟨x, h, rfl⟩
        have : y = x := by omega
        exact this ▸ hy
    rw [← map_nV]
    have sL := (same_upd nS).trans (same_upd (o := .lst (ks.map nV)) nL)
    have nL2 : ∀ {G : Hp}, G L = none → upd G L (.lst (ks.map nV)) L = some (.lst (ks.map nV)) := fun _ => upd_same
    have lk : ks.length ≤ 64 := by
      rw [List.length_map] at lenL
      omega
    refine ⟨L, rfl, ⟨_, .inl (.inl (nL2 nL))⟩, fun D nD => ?_⟩
    refine lc_walk (walk_list (K := K) (a := L) (xs := ks.map nV)) (fun i H2 => Same H H2 ∧ H2 L = some (.lst (ks.map nV)) ∧ H2 D = some (.dK ((ks.take i).map fun b => (kN b, nV 0))))
      ⟨sL.trans (same_upd nD), same_upd nD _ _ (nL2 nL), upd_same⟩ (fun i H2 _ z => .inl (.inl z.2.1)) ?_ ?_
    · rintro i x H2 H3 hi ⟨s2, eL, eD⟩ ⟨rfl, ex⟩
      have hD0 : H D = none := sL.free nD
      have nDL : L ≠ D := ne_of_none (nL2 nL) nD
      rw [List.length_map] at hi
      rw [List.getElem?_map] at ex
      have ek : ks[i]? = some ks[i] := List.getElem?_eq_getElem hi
      rw [ek] at ex
      cases ex
      refine ⟨rfl, _, rfl, _, kN ks[i], rfl, eD, by rw [List.length_map, List.length_take, sizeLine_eq]; omega, same_put s2 hD0, by rw [upd_ne nDL]; exact eL, ?_⟩
      rw [upd_same, take_one ek, List.map_append]
      refine congrArg (fun z => some (HO.dK z)) (putK_new fun q hq => ?_)
      obtain ⟨y, hy, rfl⟩ := List.mem_map.mp hq
      intro e
      have e := kN_inj _ _ e
      obtain ⟨j, hj, ej⟩ := List.getElem_of_mem hy
      rw [List.length_take] at hj
      rw [List.getElem_take] at ej
      have := (List.pairwise_iff_getElem.mp ascK) j i (by omega) hi (by omega)
      omega
    · rintro H2 ⟨s02, _, eD⟩
      rw [List.length_map, List.take_length] at eD
      dsimp only [gName]
      refine st_eq (σ' := [some (.ref p), some (.ref D), none, none]) rfl ?_
      have hb2 := same_seqT s02 hb
      refine ⟨_, rfl, p, C, dx, _, .ref b, rfl, s02 _ _ h1, T.cl, T.nb, lk_blocks b a tf, b, _, rfl, hb2, for_it (walk_enumT (K := K) (a := b) (xs := bl.map nV)) (fun i σ H3 => ∃ y z : Option V, σ = [some (.ref p), some (.ref D), y, z] ∧ Same H H3 ∧ H3 D = some (.dK (ks.map fun b => (kN b, nV (blkM bl b i)))))
        ⟨none, none, rfl, s02, eD⟩ (fun i σ H3 _ ⟨_, _, _, z, _⟩ => same_seqT z hb) ?_ ?_⟩
      · rintro i x σ H3 H4 hi ⟨y, z, rfl, s3, e3⟩ ⟨T1, v1, v2, rfl, nT, rfl, x1, x2⟩
        have x1' : V.int (i : Int) = v1 := Option.some.inj x1
        subst x1'
        have x2 : (bl.map nV)[i]? = some v2 := x2
        rw [List.length_map] at hi
        rw [List.getElem?_map] at x2
        have em : bl[i]? = some bl[i] := List.getElem?_eq_getElem hi
        rw [em] at x2
        cases x2
        have hin : bl[i] ∈ bl := List.getElem_mem hi
        generalize bl[i] = k0 at em hin
        have nTD : D ≠ T1 := ne_of_none e3 nT
        refine ⟨T1, _, rfl, .inl (.inl upd_same), rfl, _, _, rfl, _, [], rfl, rfl, ?_⟩
        have e4 : upd H3 T1 (.tup [.int (i : Int), nV k0]) D = some (.dK (ks.map fun b => (kN b, nV (blkM bl b i)))) := by rw [upd_ne nTD]; exact e3
        have s4 : Same H (upd H3 T1 (.tup [.int (i : Int), nV k0])) := s3.trans (same_upd nT)
        generalize upd H3 T1 (.tup [.int (i : Int), nV k0]) = H5 at e4 s4 ⊢
        have hD0 : H D = none := sL.free nD
        dsimp only
        refine st_eq (σ' := [some (.ref p), some (.ref D), some (nV k0), some (nV i)]) rfl ?_
        have g := DGet.k (k := kN k0) e4
        rw [valV_map kN kN_inj (fun b => nV (blkM bl b i)) k0 ks ((memK k0).mpr hin)] at g
        refine ⟨_, rfl, _, rfl, D, _, rfl, g, _, rfl, _, _, rfl, rfl, ⟨by omega, by omega, by decide⟩, _, _, rfl, rfl, _, DPut.k (k := kN k0) e4 (by rw [List.length_map, sizeLine_eq]; omega), ?_⟩
        refine ⟨_, _, rfl, same_put s4 hD0, ?_⟩
        rw [upd_same]
        have e5 : (1 : Int) * 2 ^ ((i : Int)).toNat = ((2 ^ i : Nat) : Int) := by
          rw [Int.toNat_natCast]
          simp
        show some (HO.dK (putK _ (kN k0) (V.int (Builtin.bitOr ((blkM bl k0 i : Nat) : Int) ((1 : Int) * 2 ^ ((i : Int)).toNat))))) = _
        rw [e5, bor_nat]
        have su : (blkM bl k0 i ||| 2 ^ i) = blkM bl k0 (i + 1) := by rw [blkM_succ k0 em, if_pos rfl]
        rw [su]
        exact congrArg (fun z => some (HO.dK z)) (putK_map kN kN_inj (fun b => nV (blkM bl b i)) (fun b => nV (blkM bl b (i + 1))) k0 ks ((memK k0).mpr hin) fun y _ hy => by rw [blkM_succ y em, if_neg (fun e => hy e.symm)])
      · rintro σ H3 ⟨y, z, rfl, s3, e3⟩
        rw [List.length_map] at e3
        exact ⟨_, rfl, q D ks H3 s3 (sL.free nD) ⟨ascK, memK, e3⟩⟩
end
end Rip

/-! tuple(d) of a dict: its keys, in their order. -/
namespace RipS
open PySem PySem.Spec PyProof.Rows L2
section
variable {P : Program} {w : World} {A : Around} {E : Value → Shared → Prop} {s : Shared} {T : String} {r d : Addr} {n : Nat} {Pi : Nat → Value → Prop} {OK : Heap → Prop}
theorem made_tup (S : PySem.W.KdlSrc P w T r d n Pi OK) (hh : A.handled = none) (ok : OK s.heap) (hn : n ≤ sizeLine) {R : Value → Shared → Prop}
    (q : ∀ (g : Heap) (k : Nat) (xs : Array Value), (∀ b o, s.heap.get? b = some o → g.get? b = some o) → ItemsOf Pi xs n → R (.ref g.objs.size) { s with heap := g.push { cls := .type "tuple", data := .seq xs }, toks := k }) :
    codeAny (model P w) A (.call (.builtin "tuple.__new__") ⟨[.type "tuple", .ref r], []⟩) (wants R E) s := by
  have ty := S.type _ ok
  have nt := S.notTuple
  have nl := S.notList
  have calm : A.in1.handled = none := hh
  have f1 := sub_tuple_self
  have f2 := init_tuple_lookup
  have f3 := madeHere_tuple
  refine codeAny_of_tree ?_
  show wpAny _ A.in1 (checkBuiltinCall "tuple.__new__" ⟨[.type "tuple", .ref r], []⟩ >>= fun _ => again (.builtin "tuple.__new__" ⟨[.type "tuple", .ref r], []⟩)) _ _ s
  refine wpAny_bind (wpAny_of_eq (F.newCall_tuple_1 _) (wpAny_pure ⟨plainId_quiet F.plain_tuple_new _, codeAny_builtin F.entry_tuple_new ?_⟩))
  rw [Around.under_plainId F.plain_tuple_new _]
  wp_walk using wpAny_typeOf ty, PySem.W.kdu_collect (A := A.in1) S calm ok hn
  intro g k xs kp its
  have sz : sizeOk (.seq xs.toList.toArray) := by
    show xs.toList.toArray.size ≤ sizeLine
    rw [Array.toArray_toList, its.1]
    exact hn
  show wpAny _ _ (Builtin.Tuple.tupleExact xs.toList.toArray >>= fun v => ret v) _ _ _
  unfold Builtin.Tuple.tupleExact
  rw [Array.toArray_toList] at sz ⊢
  exact wpAny_bind (wpAny_newObj_type (wpAny_pure (q g k xs kp its)) sz)
theorem tuple_src (S : PySem.W.KdlSrc P w T r d n Pi OK) (hh : A.handled = none) (ok : OK s.heap) (hn : n ≤ sizeLine) {Q : Value → Shared → Prop}
    (q : ∀ (g : Heap) (k : Nat) (xs : Array Value), (∀ b o, s.heap.get? b = some o → g.get? b = some o) → ItemsOf Pi xs n → Q (.ref g.objs.size) { s with heap := g.push { cls := .type "tuple", data := .seq xs }, toks := k }) :
    wpAny (model P w) A (call (.type "tuple") [.ref r]) Q E s :=
  callType_codes (Q₁ := fun x z => z.TypeIs x "tuple" ∧ Q x z) F.called_tuple (F.typeCall_tuple_1 _) F.entry_object_init
    (made_tup (A := A.in1) S hh ok hn fun g k xs kp its => ⟨⟨_, Heap.get?_push_size _ rfl, rfl⟩, q g k xs kp its⟩)
    fun x z hz => ⟨hz.1, F.args_object_init_2 x _, object_init_meets F.called_tuple.init.lookup F.called_tuple.made (by decide) P w A.in1 _ z ⟨hz.1, rfl, hz.2⟩⟩
end
/-- tuple(d) of a dict -/
def rTupD : List V → Hp → VK → Prop := fun xs H Q => ∃ p kvs, xs = [.ref p] ∧ H p = some (.dK kvs) ∧ ∀ q, H q = none → Q (.ref q) (upd H q (.tup (kvs.map fun kv => kV kv.1)))
theorem call_tup_dK {X : Cx} (hc : X.calm = true) : CallR X (.type "tuple") rTupD := by
  intro pins s σ H xs us Q I r h
  obtain ⟨p, kvs, rfl, hk, q⟩ := h
  rw [Vals.ref1 r]
  obtain ⟨hz, lo, vs, rk, hd⟩ := (show ObjOk X.prog X.w H s.heap p (.dK kvs) from I.hok p _ hk)
  obtain ⟨ep, at_⟩ := hd.dictAt
  have len : kvs.length = vs.length := Paired.length rk
  refine tuple_src (PySem.W.kdl_dict (knd := mixKind X.prog X.w) (kvs := vs) (ep := ep) lo) (I.ok.hd hc) at_ (by rw [← len]; exact hz) fun g k its kp items => ?_
  have J : Inv X pins σ H { s with heap := g, toks := k } := I.kept kp
  refine ⟨.ref g.objs.size, upd H g.objs.size (.tup (kvs.map fun kv => kV kv.1)), J.laid (t' := k) (fun b o e => Heap.get?_push_of_some _ e) (Nat.le_refl _)
    (show ObjOk X.prog X.w _ _ _ (.tup (kvs.map fun kv => kV kv.1)) from ⟨by rw [List.length_map]; exact hz, its.toList, ?_, by rw [Array.toArray_toList]; exact IsTup.new _ _⟩), rfl, q _ (J.hok.fresh (Nat.le_refl _))⟩
  refine vals_of_at (by rw [List.length_map, len]; exact ((Array.length_toList (xs := its)).trans items.1).symm) fun j x u hx hu => ?_
  obtain ⟨key, y, hy, is⟩ := items.2 j u (by rw [← Array.getElem?_toList]; exact hu)
  have e1 : (kvs.map (·.1))[j]? = some key := by rw [KV.keys rk, List.getElem?_map, hy]; rfl
  rw [List.getElem?_map] at e1 hx
  cases ej : kvs[j]? with
  | none => rw [ej] at e1; cases e1
  | some kv =>
    rw [ej] at e1 hx
    have e1 : kv.1 = key := Option.some.inj e1
    have hx : kV kv.1 = x := Option.some.inj hx
    rw [← hx, e1]
    exact keyIs_rel is
end RipS

/-! Standings: steps_at, comes, ripe. -/
namespace Rip
open PySem PySem.Spec PyProof.Rows L2 RipS
theorem seqT_off {K : PySem.W.Frag} {H : Hp} {p a : Addr} {o u : HO} {xs : List V} (hp : H p = some u) (h1 : ∀ ys, u ≠ .tup ys) (h2 : ∀ w ys, u ≠ .frz w (.tup ys)) (h : SqT K H a xs) : SqT K (upd H p o) a xs := by
  unfold SqT at *
  rcases h with (h | ⟨w, h⟩) | h
  · exact .inl (.inl (by rw [upd_ne (ne_of h hp (fun z => h1 _ z.symm))]; exact h))
  · exact .inl (.inr ⟨w, by rw [upd_ne (ne_of h hp (fun z => h2 _ _ z.symm))]; exact h⟩)
  · exact .inr h
theorem BookAt.lock {K : PySem.W.Frag} {C : Addr} {H : Hp} {p D : Addr} {kvs : List (Key × V)} {o : HO} {bl : List Nat} {ns : List (Nat × Nat)} {f : List Nat} (h : BookAt K C H p bl ns f) (e : H D = some (.dK kvs)) : BookAt K C (upd H D o) p bl ns f := by
  obtain ⟨dx, b, a, t, h1, h2, ⟨rs, g1, g2, g3⟩, h4⟩ := h.ob
  have off : ∀ {a : Addr} {xs : List V}, SqT K H a xs → SqT K (upd H D o) a xs := fun h => seqT_off e (fun _ z => by cases z) (fun _ _ z => by cases z) h
  exact ⟨⟨dx, b, a, t, by rw [upd_ne (ne_of h1 e fun z => by cases z)]; exact h1, off h2, ⟨rs, off g1, g2, fun i r p x y => off (g3 i r p x y)⟩, off h4⟩, h.fars⟩
/-- the blocks that are ripe at t -/
def ripeKs (f bl ks : List Nat) (t : Nat) : List Nat := ks.filter fun b => decide (brOf f (blkM bl b bl.length) t ≠ 0)
def stepV (f bl : List Nat) (t b : Nat) : V := nV (t ||| brOf f (blkM bl b bl.length) t)
section
variable {P : Program} {w : World} {K : PySem.W.Frag} {mg : Str → Option Value} {base : Heap}
abbrev s_sa : Stmt := top 27
def spSa (K : PySem.W.Frag) (C : Addr) : Sp := fun vs H Q _ => ∃ (p D : Addr) (t : Nat) (bl : List Nat) (ns : List (Nat × Nat)) (f ks : List Nat), vs = [.ref p, .ref D, nV t] ∧ BookAt K C H p bl ns f ∧ bl.length ≤ 1000 ∧ MasksAt H D bl ks ∧ ks.length ≤ 1000 ∧
  ∀ (D2 : Addr) (H' : Hp), Same H H' → H D2 = none → H' D2 = some (.dK ((ripeKs f bl ks t).map fun b => (kN b, stepV f bl t b))) → Q (.ref D2) H'
abbrev scSaN : List Str := ["book", "masks", "there", "steps", "block", "inside", "mask"]
theorem scSa : FnScope scSaN ["book", "masks", "there"] (defScope s_sa) := ⟨rfl, rfl, rfl, by decide +kernel, rfl, by decide +kernel, by decide +kernel⟩
theorem ok_sa {C f : Addr} {fd : FuncData} (F : Fun K "steps_at" "steps_at" s_sa f fd) (hB : Has P w K mg base CX0 2 "brought" ["book", "inside", "there"] (spBr K C)) :
    FnOk P w K mg base CX0 3 f fd ["book", "masks", "there"] (spSa K C) := by
  obtain ⟨fB, fdB, GB, kB, bB, gB⟩ := hB
  refine F.ok scSa (fun vs H Q E h => ?_) (fun cdv A outer s H vs Q E hr h => ?_)
  · obtain ⟨p, D, t, bl, ns, f, ks, rfl, _⟩ := h
    rfl
  · obtain ⟨p, D, t, bl, ns, fs, ks, rfl, hk, hn, ma, hks, q⟩ := h
    have hu := hu_of hr
    refine ⟨_,
      (pss_cons (ps_set (i := 3) scSa.nd rfl (.inl rfl) pe_dnewK)
      (pss_cons (ps_lock (ps_for PassesOwn.never rfl (pi_items (pv 1)) (pg_tup rfl (pgs_cons (pg_name (i := 4) scSa.nd rfl (.inl rfl)) (pgs_cons (pg_name (i := 5) scSa.nd rfl (.inl rfl)) pgs_nil)))
        (pss_cons (ps_set (i := 6) scSa.nd rfl (.inl rfl) (pe_call GB hr (by rfl) gB kB bB .nil pass0 (pa_cons (pv 0) (pa_cons (pv 5) (pa_cons (pv 2) pa_nil)))))
        (pss_one (ps_if (pt_truth (pv 6) (by intro _; rfl))
          (pss_one (ps_dput hu (pv 3) (pv 4) (pe_op op_or (pv 2) (pv 6)) rfl)) pss_nil)))))
      (pss_one (ps_ret (pv 3))))), ?_⟩
    intro D2 n2
    dsimp only [gName]
    refine st_eq (σ' := [some (.ref p), some (.ref D), some (nV t), some (.ref D2), none, none, none]) rfl ?_
    have n2D : D ≠ D2 := ne_of_none ma.at_ n2
    have eD : upd H D2 (.dK []) D = some (.dK (ks.map fun b => (kN b, nV (blkM bl b bl.length)))) := by rw [upd_ne n2D]; exact ma.at_
    refine ⟨D, _, eD, trivial, fun od => ?_⟩
    have s0 : Same (upd H D (.frz od (.dK (ks.map fun b => (kN b, nV (blkM bl b bl.length)))))) (upd (upd H D2 (.dK [])) D (.frz od (.dK (ks.map fun b => (kN b, nV (blkM bl b bl.length)))))) := fun c o e => by
      by_cases z : c = D
      · subst z
        rw [upd_same] at e ⊢
        exact e
      · rw [upd_ne z] at e ⊢
        rw [upd_ne (ne_of_none e n2)]
        exact e
    have hk0 : BookAt K C (upd H D (.frz od (.dK (ks.map fun b => (kN b, nV (blkM bl b bl.length)))))) p bl ns fs := hk.lock ma.at_
    have z0 : upd H D (.frz od (.dK (ks.map fun b => (kN b, nV (blkM bl b bl.length))))) D = some (.frz od (.dK (ks.map fun b => (kN b, nV (blkM bl b bl.length))))) := upd_same
    have m0 : upd H D (.frz od (.dK (ks.map fun b => (kN b, nV (blkM bl b bl.length))))) D2 = none := by rw [upd_ne n2D.symm]; exact n2
    have back : ∀ H', Same (upd H D (.frz od (.dK (ks.map fun b => (kN b, nV (blkM bl b bl.length)))))) H' → Same H (upd H' D (.dK (ks.map fun b => (kN b, nV (blkM bl b bl.length))))) := fun H' s c o e => by
      by_cases z : c = D
      · subst z
        rw [upd_same, ← e]
        exact ma.at_.symm
      · rw [upd_ne z]
        exact s c o (by rw [upd_ne z]; exact e)
    have e2 : upd (upd H D2 (.dK [])) D (.frz od (.dK (ks.map fun b => (kN b, nV (blkM bl b bl.length))))) D2 = some (.dK []) := by rw [upd_ne n2D.symm, upd_same]
    generalize upd H D (.frz od (.dK (ks.map fun b => (kN b, nV (blkM bl b bl.length))))) = H0 at s0 hk0 z0 m0 back
    generalize upd (upd H D2 (.dK [])) D (.frz od (.dK (ks.map fun b => (kN b, nV (blkM bl b bl.length))))) = H1 at s0 e2 ⊢
    refine ⟨_, rfl, D, od, _, rfl, s0 _ _ z0, for_it (walk_items (d := D) (o := od) (kvs := ks.map fun b => (kN b, nV (blkM bl b bl.length)))) (fun i σ H3 => ∃ y4 y5 y6 : Option V, σ = [some (.ref p), some (.ref D), some (nV t), some (.ref D2), y4, y5, y6] ∧ Same H0 H3 ∧ H3 D2 = some (.dK ((ripeKs fs bl (ks.take i) t).map fun b => (kN b, stepV fs bl t b))))
      ⟨none, none, none, rfl, s0, e2⟩ (fun i σ H3 _ ⟨_, _, _, _, z, _⟩ => z _ _ z0) ?_ ?_⟩
    · rintro i x σ H3 H4 hi ⟨y4, y5, y6, rfl, s3, e3⟩ ⟨T1, v1, v2, rfl, nT, rfl, x1, x2⟩
      rw [List.length_map] at hi
      have ek : ks[i]? = some ks[i] := List.getElem?_eq_getElem hi
      have x1 : ((ks.map fun b => (kN b, nV (blkM bl b bl.length)))[i]?.map fun kv => kV kv.1) = some v1 := x1
      have x2 : ((ks.map fun b => (kN b, nV (blkM bl b bl.length)))[i]?.map Prod.snd) = some v2 := x2
      rw [List.getElem?_map, ek] at x1 x2
      have x1' : nV ks[i] = v1 := Option.some.inj x1
      have x2' : nV (blkM bl ks[i] bl.length) = v2 := Option.some.inj x2
      subst x1' x2'
      have asc := List.pairwise_iff_getElem.mp ma.asc
      have fresh : ∀ y ∈ ks.take i, y ≠ ks[i] := fun y hy e => by
        obtain ⟨j, hj, ej⟩ := List.getElem_of_mem hy
        rw [List.length_take] at hj
        rw [List.getElem_take] at ej
        have := asc j i (by omega) hi (by omega)
        omega
      generalize ks[i] = k0 at ek fresh
      have nTD : D2 ≠ T1 := ne_of_none e3 nT
      have s4 : Same H0 (upd H3 T1 (.tup [nV k0, nV (blkM bl k0 bl.length)])) := s3.trans (same_upd nT)
      have e4 : upd H3 T1 (.tup [nV k0, nV (blkM bl k0 bl.length)]) D2 = some (.dK ((ripeKs fs bl (ks.take i) t).map fun b => (kN b, stepV fs bl t b))) := by rw [upd_ne nTD]; exact e3
      refine ⟨T1, _, rfl, .inl (.inl upd_same), rfl, _, _, rfl, _, [], rfl, rfl, ?_⟩
      generalize upd H3 T1 (.tup [nV k0, nV (blkM bl k0 bl.length)]) = H5 at s4 e4 ⊢
      refine ⟨_, rfl, _, rfl, _, rfl, p, blkM bl k0 bl.length, t, bl, ns, fs, rfl, hk0.same s4, hn, blkM_lt bl k0 bl.length, fun H6 s6 => ?_⟩
      dsimp only [gName]
      refine st_eq (σ' := [some (.ref p), some (.ref D), some (nV t), some (.ref D2), some (nV k0), some (nV (blkM bl k0 bl.length)), some (nV (brOf fs (blkM bl k0 bl.length) t))]) rfl ?_
      have e6 := s6 _ _ e4
      have suc : ripeKs fs bl (ks.take (i + 1)) t = ripeKs fs bl (ks.take i) t ++ (if decide (brOf fs (blkM bl k0 bl.length) t ≠ 0) = true then [k0] else []) := by
        unfold ripeKs
        rw [take_one ek, List.filter_append, List.filter_cons]
        rfl
      have few : (ripeKs fs bl (ks.take i) t).length ≤ 1000 := Nat.le_trans (List.length_filter_le _ _) (by rw [List.length_take]; omega)
      refine ⟨_, rfl, _, rfl, ite_b (fun hz => ?_) fun hz => ?_⟩
      · have nz : brOf fs (blkM bl k0 bl.length) t ≠ 0 := fun z => by rw [z] at hz; simp at hz
        rw [if_pos (decide_eq_true nz)] at suc
        refine ⟨_, rfl, _, rfl, _, _, rfl, rfl, _, rfl, _, rfl, D2, _, rfl, DPut.k (k := kN k0) e6 (by rw [List.length_map, sizeLine_eq]; omega), ?_⟩
        refine ⟨_, _, _, rfl, same_put (s4.trans s6) m0, ?_⟩
        rw [upd_same, suc, List.map_append]
        show some (HO.dK (putK _ (kN k0) (V.int (Builtin.bitOr ((t : Nat) : Int) ((brOf fs (blkM bl k0 bl.length) t : Nat) : Int))))) = _
        rw [bor_nat]
        refine congrArg (fun z => some (HO.dK z)) (putK_new fun pr hpr e => ?_)
        obtain ⟨y, hy, rfl⟩ := List.mem_map.mp hpr
        exact fresh y (List.mem_filter.mp hy).1 (kN_inj _ _ e)
      · have nz : ¬ brOf fs (blkM bl k0 bl.length) t ≠ 0 := fun z => by
          simp only [bne_eq_false_iff_eq] at hz
          omega
        rw [if_neg (by simpa using nz), List.append_nil] at suc
        rw [suc.symm] at e6
        exact ⟨_, _, _, rfl, s4.trans s6, e6⟩
    · rintro σ H3 ⟨y4, y5, y6, rfl, s3, e3⟩
      rw [List.length_map, List.take_length] at e3
      refine ⟨s3 _ _ z0, _, rfl, q D2 _ (back H3 s3) n2 ?_⟩
      rw [upd_ne n2D.symm]
      exact e3
/-! ### comes -/
abbrev s_comes : Stmt := top 28
abbrev s_ripe : Stmt := top 29
/-- what is asked of a standing that may be none: q of the right one -/
def StAsk (K : PySem.W.Frag) (C CS : Addr) (v : V) (bl : List Nat) (f : List Nat) (H : Hp) (E : XK) (q : List Nat → Hp → Prop) : Prop := ∃ tp, ObT K H v tp ∧ (tp = false → E (.ref CS) none H) ∧
  (tp = true → ∃ (t : Addr) (xs : List V), v = .ref t ∧ SqT K H t xs ∧ (∀ x ∈ xs, Ob K H x) ∧ (lotGo bl.length (-1) xs = false → E (.ref CS) none H) ∧
    ∀ l : List Nat, xs = l.map nV → l.Pairwise (· < ·) → (∀ c ∈ l, c < bl.length) → ∀ H', Same H H' → (closedB f l = false → E (.ref CS) none H') ∧ (closedB f l = true → q l H'))
def spComes (K : PySem.W.Frag) (C CS CB : Addr) : Sp := fun vs H Q E => ∃ (p : Addr) (v vb : V) (bl : List Nat) (ns : List (Nat × Nat)) (f : List Nat), vs = [.ref p, v, vb] ∧ BookAt K C H p bl ns f ∧ bl.length ≤ 1000 ∧ (∀ b ∈ bl, b < 60) ∧
  (∀ H', Same H H' → Ob K H' vb) ∧ StAsk K C CS v bl f H E fun l H' => (isBlk bl vb = false → E (.ref CB) none H') ∧
    ∀ b, vb = nV b → b ∈ bl → ∀ (t2 : Addr) (H2 : Hp), Same H' H2 → H' t2 = none → H2 t2 = some (.tup ((lotOf (brOf f (blkM bl b bl.length) (maskOf l))).map nV)) → Q (.ref t2) H2
abbrev scCoN : List Str := ["book", "standing", "block", "there"]
theorem scCo : FnScope scCoN ["book", "standing", "block"] (defScope s_comes) := ⟨rfl, rfl, rfl, by decide +kernel, rfl, by decide +kernel, by decide +kernel⟩
theorem ok_comes {C CS CB f : Addr} {fd : FuncData} (F : Fun K "comes" "comes" s_comes f fd) (Er : ErT K mg "NoBlock" CB)
    (hS : Has P w K mg base (L2.CX P w) 6 "standing_mask" ["book", "standing"] (spStm K C CS)) (hI : Has P w K mg base CX0 3 "is_block" ["book", "thing"] (spIsBlock K C))
    (hM : Has P w K mg base CX0 1 "block_masks" ["book"] (spBm K C)) (hB : Has P w K mg base CX0 2 "brought" ["book", "inside", "there"] (spBr K C)) (hL : Has P w K mg base CX0 1 "lot_of" ["mask"] spLotB) :
    FnOk P w K mg base (L2.CX P w) 7 f fd ["book", "standing", "block"] (spComes K C CS CB) := by
  obtain ⟨fS, fdS, GS, kS, bS, gS⟩ := hS
  obtain ⟨fI, fdI, GI, kI, bI, gI⟩ := hI
  obtain ⟨fM, fdM, GM, kM, bM, gM⟩ := hM
  obtain ⟨fB, fdB, GB, kB, bB, gB⟩ := hB
  obtain ⟨fL, fdL, GL, kL, bL, gL⟩ := hL
  refine F.okX scCo (fun vs H Q E h => ?_) (fun cdv A outer s H vs Q E hr h => ?_)
  · obtain ⟨p, v, vb, bl, ns, f, rfl, _⟩ := h
    rfl
  · obtain ⟨p, v, vb, bl, ns, fs, rfl, hk, hn, h60, ob, tp, ot, q0, q1⟩ := h
    have hu := hu_of hr
    refine ⟨_,
      (pss_cons (ps_set (i := 3) scCo.nd rfl (.inl rfl) (pe_call GS hr (by rfl) gS kS bS .nil (passes_call (takes_of rfl rfl rfl rfl) (fun _ _ _ _ h => h)) (pa_cons (pv 0) (pa_cons (pv 1) pa_nil))))
      (pss_cons (ps_if (pt_not (pt_val (pe_call GI (hr.mono (by decide)) (by rfl) gI kI bI .nil pass0 (pa_cons (pv 0) (pa_cons (pv 2) pa_nil)))))
        (pss_one (ps_raise rfl (takes_of rfl rfl rfl rfl) (pmk_own0 PySem.F.excBase_ValueError Er.x Er.g Er.k (raises_own Er.b Er.t) (by exact rfl)))) pss_nil)
      (pss_one (ps_ret (pe_call GL (hr.mono (by decide)) (by rfl) gL kL bL .nil pass0 (pa_cons (pe_call GB (hr.mono (by decide)) (by rfl) gB kB bB .nil pass0 (pa_cons (pv 0) (pa_cons (pe_dget hu (pe_call GM (hr.mono (by decide)) (by rfl) gM kM bM .nil pass0 (pa_cons (pv 0) pa_nil)) (pv 2) (fun _ _ => rfl)) (pa_cons (pv 3) pa_nil)))) pa_nil)))))), ?_⟩
    refine ⟨_, rfl, _, rfl, p, v, bl, ns, fs, tp, rfl, hk, hn, ot, q0, fun e => ?_⟩
    obtain ⟨t1, xs, rfl, hS, ho, q2, q3⟩ := q1 e
    refine ⟨t1, xs, rfl, hS, ho, q2, fun l ex asc hin H' s' => ?_⟩
    obtain ⟨qa, qb⟩ := q3 l ex asc hin H' s'
    refine ⟨qa, fun ec => ?_⟩
    obtain ⟨qc, qd⟩ := qb ec
    have hk1 := hk.same s'
    dsimp only [gName]
    refine st_eq (σ' := [some (.ref p), some (.ref t1), some vb, some (nV (maskOf l))]) rfl ?_
    refine ⟨_, rfl, _, rfl, p, vb, bl, ns, fs, rfl, hk1, ob H' s', _, rfl, ?_⟩
    show if (!(isBlk bl vb)) = true then _ else _
    cases e1 : isBlk bl vb with
    | false => exact iteT (qc e1)
    | true =>
      refine iteF ?_
      obtain ⟨b, rfl, hb⟩ := isBlk_nat e1
      refine ⟨_, rfl, _, rfl, p, bl, ns, fs, rfl, hk1, hn, h60, fun D ks H2 s2 nD ma => ?_⟩
      refine ⟨_, rfl, D, _, rfl, ma.get hb, _, rfl, p, blkM bl b bl.length, maskOf l, bl, ns, fs, rfl, hk1.same s2, hn, blkM_lt bl b bl.length, fun H3 s3 => ?_⟩
      refine ⟨⟨_, rfl, fun t2 H4 s4 n4 e4 => qd b rfl hb t2 H4 ((s2.trans s3).trans s4) ((s2.trans s3).free n4) e4⟩, _, rfl, small_900 (brOf_lt (blkM_lt bl b bl.length)) hn⟩
/-! ### ripe -/
def spRipe (K : PySem.W.Frag) (C CS : Addr) : Sp := fun vs H Q E => ∃ (p : Addr) (v : V) (bl : List Nat) (ns : List (Nat × Nat)) (f : List Nat), vs = [.ref p, v] ∧ BookAt K C H p bl ns f ∧ bl.length ≤ 1000 ∧ (∀ b ∈ bl, b < 60) ∧
  StAsk K C CS v bl f H E fun l H' => ∀ ks : List Nat, ks.Pairwise (· < ·) → (∀ b, b ∈ ks ↔ b ∈ bl) → ∀ (t2 : Addr) (H2 : Hp), Same H' H2 → H' t2 = none → H2 t2 = some (.tup ((ripeKs f bl ks (maskOf l)).map nV)) → Q (.ref t2) H2
abbrev scRiN : List Str := ["book", "standing", "there"]
theorem scRi : FnScope scRiN ["book", "standing"] (defScope s_ripe) := ⟨rfl, rfl, rfl, by decide +kernel, rfl, by decide +kernel, by decide +kernel⟩
theorem asc_len {ks bl : List Nat} {n : Nat} (asc : ks.Pairwise (· < ·)) (h : ∀ b, b ∈ ks ↔ b ∈ bl) (hb : ∀ b ∈ bl, b < n) : ks.length ≤ n :=
  nodup_below (asc.imp fun {a b} h e => by omega) fun d hd => hb d ((h d).mp hd)
theorem ok_ripe {C CS f : Addr} {fd : FuncData} (F : Fun K "ripe" "ripe" s_ripe f fd) (B : Blt mg)
    (hS : Has P w K mg base (L2.CX P w) 6 "standing_mask" ["book", "standing"] (spStm K C CS)) (hM : Has P w K mg base CX0 1 "block_masks" ["book"] (spBm K C)) (hA : Has P w K mg base CX0 3 "steps_at" ["book", "masks", "there"] (spSa K C)) :
    FnOk P w K mg base (L2.CX P w) 7 f fd ["book", "standing"] (spRipe K C CS) := by
  obtain ⟨fS, fdS, GS, kS, bS, gS⟩ := hS
  obtain ⟨fM, fdM, GM, kM, bM, gM⟩ := hM
  obtain ⟨fA, fdA, GA, kA, bA, gA⟩ := hA
  refine F.okX scRi (fun vs H Q E h => ?_) (fun cdv A outer s H vs Q E hr h => ?_)
  · obtain ⟨p, v, bl, ns, f, rfl, _⟩ := h
    rfl
  · obtain ⟨p, v, bl, ns, fs, rfl, hk, hn, h60, tp, ot, q0, q1⟩ := h
    refine ⟨_,
      (pss_cons (ps_set (i := 2) scRi.nd rfl (.inl rfl) (pe_call GS hr (by rfl) gS kS bS .nil (passes_call (takes_of rfl rfl rfl rfl) (fun _ _ _ _ h => h)) (pa_cons (pv 0) (pa_cons (pv 1) pa_nil))))
      (pss_one (ps_ret (pe_callTy (call_tup_dK rfl) (by rfl) B.tuple PyProof.Rows.boot_tuple (pa_cons (pe_call GA (hr.mono (by decide)) (by rfl) gA kA bA .nil pass0 (pa_cons (pv 0) (pa_cons (pe_call GM (hr.mono (by decide)) (by rfl) gM kM bM .nil pass0 (pa_cons (pv 0) pa_nil)) (pa_cons (pv 2) pa_nil)))) pa_nil))))), ?_⟩
    refine ⟨_, rfl, _, rfl, p, v, bl, ns, fs, tp, rfl, hk, hn, ot, q0, fun e => ?_⟩
    obtain ⟨t1, xs, rfl, hS, ho, q2, q3⟩ := q1 e
    refine ⟨t1, xs, rfl, hS, ho, q2, fun l ex asc hin H' s' => ?_⟩
    obtain ⟨qa, qb⟩ := q3 l ex asc hin H' s'
    refine ⟨qa, fun ec => ?_⟩
    have hk1 := hk.same s'
    dsimp only [gName]
    refine st_eq (σ' := [some (.ref p), some (.ref t1), some (nV (maskOf l))]) rfl ?_
    refine ⟨_, rfl, _, rfl, p, bl, ns, fs, rfl, hk1, hn, h60, fun D ks H2 s2 nD ma => ?_⟩
    refine ⟨_, rfl, p, D, maskOf l, bl, ns, fs, ks, rfl, hk1.same s2, hn, ma, by have := asc_len ma.asc ma.mem h60; omega, fun D2 H3 s3 n3 e3 => ?_⟩
    refine ⟨D2, _, rfl, e3, fun t2 n2 => ?_⟩
    have s4 := s2.trans (s3.trans (same_upd (o := .tup (((ripeKs fs bl ks (maskOf l)).map fun b => (kN b, stepV fs bl (maskOf l) b)).map fun kv => kV kv.1)) n2))
    refine qb ec ks ma.asc ma.mem t2 _ s4 ((s2.trans s3).free n2) ?_
    rw [upd_same, List.map_map]
    rfl
end
end Rip

/-! Standings: wrong_write, led, is_willing. -/
namespace Rip
open PySem PySem.Spec PyProof.Rows L2 RipS
/-- the first that is no block, by its place -/
def wwGo (bl : List Nat) : Nat → List V → V
  | _, [] => .non
  | i, x :: r => if isBlk bl x = true then wwGo bl (i + 1) r else .int (i : Int)
theorem wwGo_non {bl : List Nat} : ∀ {xs : List V} {i : Nat}, wwGo bl i xs = .non → ∃ row : List Nat, xs = row.map nV ∧ ∀ b ∈ row, b ∈ bl := by
  intro xs
  induction xs with
  | nil => exact fun _ => ⟨[], rfl, fun _ h => nomatch h⟩
  | cons x r ih =>
    intro i h
    unfold wwGo at h
    cases e : isBlk bl x with
    | false => rw [e] at h; cases h
    | true =>
      rw [e] at h
      obtain ⟨b, rfl, hb⟩ := isBlk_nat e
      obtain ⟨row, rfl, hr⟩ := ih h
      exact ⟨b :: row, rfl, fun y hy => (List.mem_cons.mp hy).elim (fun z => z ▸ hb) (hr y)⟩
theorem wwGo_or {bl : List Nat} : ∀ (xs : List V) (i : Nat), wwGo bl i xs = .non ∨ ∃ k : Int, wwGo bl i xs = .int k := by
  intro xs
  induction xs with
  | nil => exact fun _ => .inl rfl
  | cons x r ih =>
    intro i
    unfold wwGo
    cases e : isBlk bl x with
    | false => exact .inr ⟨_, rfl⟩
    | true => exact ih (i + 1)
/-- the standing behind a row of writes -/
def thereAt (f bl : List Nat) (t : Nat) (row : List Nat) : Nat := row.foldl (fun t b => t ||| brOf f (blkM bl b bl.length) t) t
theorem there_snoc (f bl : List Nat) (t : Nat) (row : List Nat) (b : Nat) : thereAt f bl t (row ++ [b]) = (thereAt f bl t row ||| brOf f (blkM bl b bl.length) (thereAt f bl t row)) := by
  unfold thereAt
  rw [List.foldl_append]
  rfl
theorem or_lt {a b n : Nat} (h1 : a < 2 ^ n) (h2 : b < 2 ^ n) : (a ||| b) < 2 ^ n := Nat.or_lt_two_pow h1 h2
theorem there_lt {f bl : List Nat} {t : Nat} (h : t < 2 ^ bl.length) : ∀ row : List Nat, thereAt f bl t row < 2 ^ bl.length := by
  intro row
  unfold thereAt
  induction row generalizing t with
  | nil => exact h
  | cons b r ih => exact ih (or_lt h (brOf_lt (blkM_lt bl b bl.length)))
/-- whether all these writes bring something, and all is there behind them -/
def willGo (f bl : List Nat) : Nat → List Nat → Bool
  | t, [] => decide (t = 2 ^ bl.length - 1)
  | t, b :: r => decide (brOf f (blkM bl b bl.length) t ≠ 0) && willGo f bl (t ||| brOf f (blkM bl b bl.length) t) r
section
variable {P : Program} {w : World} {K : PySem.W.Frag} {mg : Str → Option Value} {base : Heap}
/-- what is looked at as a row; w: the first wrong place -/
def RowAsk (K : PySem.W.Frag) (bl : List Nat) (v : V) (H : Hp) (q : V → List V → Prop) : Prop := ∃ tp, (∀ H', Same H H' → ObT K H' v tp) ∧ (tp = false → q (.int (-1)) []) ∧
  (tp = true → ∃ (t : Addr) (xs : List V), v = .ref t ∧ SqT K H t xs ∧ (∀ x ∈ xs, ∀ H', Same H H' → Ob K H' x) ∧ xs.length ≤ 100000 ∧ q (wwGo bl 0 xs) xs)
theorem RowAsk.same {bl : List Nat} {v : V} {H H' : Hp} {q : V → List V → Prop} (h : RowAsk K bl v H q) (s : Same H H') : RowAsk K bl v H' q := by
  obtain ⟨tp, h1, h2, h3⟩ := h
  refine ⟨tp, fun H2 s2 => h1 H2 (s.trans s2), h2, fun e => ?_⟩
  obtain ⟨t, xs, ev, hS, ho, hl, hq⟩ := h3 e
  exact ⟨t, xs, ev, same_seqT s hS, fun x hx H2 s2 => ho x hx H2 (s.trans s2), hl, hq⟩
def spWw (K : PySem.W.Frag) (C : Addr) : Sp := fun vs H Q _ => ∃ (p : Addr) (v : V) (bl : List Nat) (ns : List (Nat × Nat)) (f : List Nat), vs = [.ref p, v] ∧ BookAt K C H p bl ns f ∧ RowAsk K bl v H fun u _ => ∀ H', Same H H' → Q u H'
end
end Rip

/-! Standings: is_willing, led. -/
namespace Rip
open PySem PySem.Spec PyProof.Rows L2 RipS
def rowN (xs : List V) : List Nat := xs.map fun x => match x with
  | .int i => i.toNat
  | _ => 0
theorem rowN_map (row : List Nat) : rowN (row.map nV) = row := by
  unfold rowN
  rw [List.map_map]
  exact List.map_id' row
/-- what is_willing tells: of the first wrong place, and the items -/
def willV (f bl : List Nat) (t : Nat) : V → List V → Bool
  | .non, xs => willGo f bl t (rowN xs)
  | _, _ => false
theorem iteS {c : Prop} [Decidable c] {A B : Prop} (hc : ¬ c) (h : A) : if (!decide c) = true then A else B := by
  rw [decide_eq_false hc]
  exact h
section
variable {P : Program} {w : World} {K : PySem.W.Frag} {mg : Str → Option Value} {base : Heap}
def spWill (K : PySem.W.Frag) (C CS : Addr) : Sp := fun vs H Q E => ∃ (p : Addr) (v vt : V) (bl : List Nat) (ns : List (Nat × Nat)) (f : List Nat), vs = [.ref p, v, vt] ∧ BookAt K C H p bl ns f ∧ bl.length ≤ 1000 ∧ (∀ b ∈ bl, b < 60) ∧
  StAsk K C CS v bl f H E fun l H' => RowAsk K bl vt H' fun u xs => ∀ H2, Same H' H2 → Q (.bl (willV f bl (maskOf l) u xs)) H2
end
end Rip

/-! Standings: BadRow made, led. -/
namespace Rip
open PySem PySem.Spec PyProof.Rows L2 RipS
/-- the masks of the standings behind none, one, two .. writes of a row -/
def ledM (f bl : List Nat) (t : Nat) (row : List Nat) (k : Nat) : List Nat := (List.range (k + 1)).map fun j => thereAt f bl t (row.take j)
theorem ledM_succ (f bl : List Nat) (t : Nat) (row : List Nat) (k : Nat) : ledM f bl t row (k + 1) = ledM f bl t row k ++ [thereAt f bl t (row.take (k + 1))] := by
  unfold ledM
  rw [List.range_succ (n := k + 1), List.map_append]
  rfl
theorem ledM_len (f bl : List Nat) (t : Nat) (row : List Nat) (k : Nat) : (ledM f bl t row k).length = k + 1 := by
  unfold ledM
  rw [List.length_map, List.length_range]
theorem ledM_last (f bl : List Nat) (t : Nat) (row : List Nat) (k : Nat) : (ledM f bl t row k)[k]? = some (thereAt f bl t (row.take k)) := by
  unfold ledM
  rw [List.getElem?_map, List.getElem?_range (by omega)]
  rfl
/-- at L a list of lots, by their masks -/
def LotsAt (K : PySem.W.Frag) (H : Hp) (L : Addr) (ms : List Nat) : Prop := ∃ rs : List Addr, H L = some (.lst (rs.map V.ref)) ∧ rs.length = ms.length ∧ ∀ (i : Nat) (r : Addr) (m : Nat), rs[i]? = some r → ms[i]? = some m → SqT K H r ((lotOf m).map nV)
theorem LotsAt.same {K : PySem.W.Frag} {H H' : Hp} {L : Addr} {ms : List Nat} (h : LotsAt K H L ms) (s : Same H H') : LotsAt K H' L ms := by
  obtain ⟨rs, h1, h2, h3⟩ := h
  exact ⟨rs, s _ _ h1, h2, fun i r m x y => same_seqT s (h3 i r m x y)⟩
theorem LotsAt.snoc {K : PySem.W.Frag} {H : Hp} {L r : Addr} {ms : List Nat} {m : Nat} (h : LotsAt K H L ms) (hr : SqT K H r ((lotOf m).map nV)) (hl : ms.length ≤ 200000) :
    ∃ acc, H L = some (.lst acc) ∧ acc.length < sizeLine ∧ LotsAt K (upd H L (.lst (acc ++ [.ref r]))) L (ms ++ [m]) := by
  obtain ⟨rs, h1, h2, h3⟩ := h
  refine ⟨_, h1, by rw [List.length_map, sizeLine_eq]; omega, rs ++ [r], by rw [upd_same, List.map_append]; rfl, by rw [List.length_append, List.length_append, h2]; rfl, fun i q k x y => ?_⟩
  refine seqT_putL h1 ?_
  by_cases hi : i < rs.length
  · rw [List.getElem?_append_left hi] at x
    rw [List.getElem?_append_left (by omega)] at y
    exact h3 i q k x y
  · have e : i = rs.length := by
      have := (List.getElem?_eq_some_iff.mp x).1
      rw [List.length_append] at this
      have : i < rs.length + 1 := this
      omega
    subst e
    rw [List.getElem?_append_right (Nat.le_refl _), Nat.sub_self] at x
    rw [h2, List.getElem?_append_right (Nat.le_refl _), Nat.sub_self] at y
    have x' : r = q := Option.some.inj x
    have y' : m = k := Option.some.inj y
    subst x' y'
    exact hr
section
variable {P : Program} {w : World} {K : PySem.W.Frag} {mg : Str → Option Value} {base : Heap}
def spInitR (C : Addr) : Sp := fun vs H Q _ => ∃ (a : Addr) (y : V), vs = [.ref a, y] ∧ H a = some (exo a C none) ∧ ∀ dx, H dx = none → dx ≠ a → Q .non (upd (upd H dx (exd dx [("index", y)])) a (exo a C (some dx)))
/-- BadRow, as the top leaves it -/
structure ErR (P : Program) (w : World) (K : PySem.W.Frag) (mg : Str → Option Value) (base : Heap) (C : Addr) : Prop where
  T : OexC K C
  ini : ∃ fI fd, PySem.W.findIn K (.ref C) "__init__" = some (some (.ref fI)) ∧ PySem.W.typeIn K (.ref fI) = some (.type "function") ∧ FnOk P w K mg base CX0 1 fI fd ["self", "index"] (spInitR C) ∧ Binds K fd ["self", "index"] []
  g : mg "BadRow" = some (.ref C)
def spLed (K : PySem.W.Frag) (C CS CR : Addr) : Sp := fun vs H Q E => ∃ (p : Addr) (v vt : V) (bl : List Nat) (ns : List (Nat × Nat)) (f : List Nat), vs = [.ref p, v, vt] ∧ BookAt K C H p bl ns f ∧ bl.length ≤ 1000 ∧ (∀ b ∈ bl, b < 60) ∧
  StAsk K C CS v bl f H E fun l H' => RowAsk K bl vt H' fun u xs => (∀ i : Int, u = .int i → ∀ (d : Addr) (H2 : Hp), Same H' H2 → H' d = none → H2 d = some (.xd [("index", .int i)]) → E (.ref CR) (some d) H2) ∧
    (u = .non → ∀ (L : Addr) (H2 : Hp), Same H' H2 → H' L = none → LotsAt K H2 L (ledM f bl (maskOf l) (rowN xs) xs.length) → Q (.ref L) H2)
end
end Rip

/-! What is needed however far, by going on until nothing more comes: the mathematics, and lists of lists. -/
namespace Rip
open PySem PySem.Spec PyProof.Rows L2 RipS
/-- all lengths together -/
def tot (M : List (List Nat)) : Nat := (M.map List.length).sum
/-- rows that are right as far as they go -/
structure Going (ns : List (Nat × Nat)) (n : Nat) (M : List (List Nat)) : Prop where
  len : M.length = n
  nd : ∀ (c : Nat) (row : List Nat), M[c]? = some row → row.Nodup
  lt : ∀ (c : Nat) (row : List Nat), M[c]? = some row → ∀ o ∈ row, o < n
  far : ∀ (c : Nat) (row : List Nat), M[c]? = some row → ∀ o ∈ row, Far ns c o
  one : ∀ (c : Nat) (row : List Nat), M[c]? = some row → ∀ o, (c, o) ∈ ns → o ∈ row
/-- nothing more comes to c -/
def Shut (M : List (List Nat)) (c : Nat) : Prop := ∀ row, M[c]? = some row → ∀ o ∈ row, ∀ r2, M[o]? = some r2 → ∀ x ∈ r2, x ∈ row
theorem sum_set : ∀ (l : List Nat) (c x y : Nat), l[c]? = some x → x ≤ y → (l.set c y).sum = l.sum + (y - x)
  | [], c, x, y, h, _ => by cases h
  | a :: l, 0, x, y, h, hl => by
    have h : a = x := Option.some.inj h
    subst h
    show y + l.sum = a + l.sum + (y - a)
    omega
  | a :: l, c + 1, x, y, h, hl => by
    have z := sum_set l c x y h hl
    show a + (l.set c y).sum = a + l.sum + (y - x)
    omega
theorem tot_set {M : List (List Nat)} {c : Nat} {row more : List Nat} (h : M[c]? = some row) : tot (M.set c (row ++ more)) = tot M + more.length := by
  unfold tot
  rw [List.map_set, sum_set _ c row.length _ (by rw [List.getElem?_map, h]; rfl) (by rw [List.length_append]; omega), List.length_append]
  omega
theorem sum_le : ∀ (l : List Nat) (n : Nat), (∀ x ∈ l, x ≤ n) → l.sum ≤ l.length * n
  | [], n, _ => by simp
  | a :: l, n, h => by
    have z := sum_le l n fun x hx => h x (List.mem_cons_of_mem _ hx)
    have y := h a List.mem_cons_self
    show a + l.sum ≤ (l.length + 1) * n
    rw [Nat.succ_mul]
    omega
theorem Going.tot_le {ns : List (Nat × Nat)} {n : Nat} {M : List (List Nat)} (G : Going ns n M) : tot M ≤ n * n := by
  have z := sum_le (M.map List.length) n fun x hx => by
    obtain ⟨row, hr, rfl⟩ := List.mem_map.mp hx
    obtain ⟨c, hc, e⟩ := List.getElem_of_mem hr
    have e' : M[c]? = some row := by rw [List.getElem?_eq_getElem hc, e]
    exact nodup_below (G.nd c row e') (G.lt c row e')
  rw [List.length_map, G.len] at z
  exact z
theorem Going.row_len {ns : List (Nat × Nat)} {n : Nat} {M : List (List Nat)} (G : Going ns n M) {c : Nat} {row : List Nat} (h : M[c]? = some row) : row.length ≤ n := nodup_below (G.nd c row h) (G.lt c row h)
/-- what comes of one that is needed -/
theorem Going.more {ns : List (Nat × Nat)} {n : Nat} {M : List (List Nat)} (G : Going ns n M) {c o : Nat} {row r2 : List Nat} (h : M[c]? = some row) (ho : o ∈ row) (h2 : M[o]? = some r2) :
    Going ns n (M.set c (row ++ r2.filter fun x => decide (x ∉ row))) := by
  have hc : c < M.length := (List.getElem?_eq_some_iff.mp h).1
  have key : ∀ d r, (M.set c (row ++ r2.filter fun x => decide (x ∉ row)))[d]? = some r → (d = c ∧ r = row ++ r2.filter fun x => decide (x ∉ row)) ∨ (d ≠ c ∧ M[d]? = some r) := fun d r e => by
    by_cases z : d = c
    · subst z
      rw [List.getElem?_set_self hc] at e
      exact .inl ⟨rfl, (Option.some.inj e).symm⟩
    · rw [List.getElem?_set_ne (fun y => z y.symm)] at e
      exact .inr ⟨z, e⟩
  refine ⟨by rw [List.length_set]; exact G.len, fun d r e => ?_, fun d r e x hx => ?_, fun d r e x hx => ?_, fun d r e x hx => ?_⟩
  · rcases key d r e with ⟨rfl, rfl⟩ | ⟨_, e⟩
    · refine List.nodup_append.mpr ⟨G.nd _ _ h, (G.nd _ _ h2).filter _, fun a ha b hb e => ?_⟩
      subst e
      exact of_decide_eq_true (List.mem_filter.mp hb).2 ha
    · exact G.nd d r e
  · rcases key d r e with ⟨rfl, rfl⟩ | ⟨_, e⟩
    · rcases List.mem_append.mp hx with hx | hx
      · exact G.lt _ _ h x hx
      · exact G.lt _ _ h2 x (List.mem_filter.mp hx).1
    · exact G.lt d r e x hx
  · rcases key d r e with ⟨rfl, rfl⟩ | ⟨_, e⟩
    · rcases List.mem_append.mp hx with hx | hx
      · exact G.far _ _ h x hx
      · exact (G.far _ _ h o ho).trans (G.far _ _ h2 x (List.mem_filter.mp hx).1)
    · exact G.far d r e x hx
  · rcases key d r e with ⟨rfl, rfl⟩ | ⟨_, e⟩
    · exact List.mem_append.mpr (.inl (G.one _ _ h x hx))
    · exact G.one d r e x hx
theorem Going.all {ns : List (Nat × Nat)} {n : Nat} {M : List (List Nat)} (G : Going ns n M) (hb : ∀ p ∈ ns, p.1 < n ∧ p.2 < n) (hs : ∀ c, c < n → Shut M c) {c : Nat} {row : List Nat} (h : M[c]? = some row) (o : Nat) : o ∈ row ↔ Far ns c o := by
  constructor
  · exact fun ho => G.far c row h o ho
  · intro f
    induction f generalizing row with
    | one e => exact G.one _ row h _ e
    | @step c m o e f ih =>
      have hm := (hb _ e).2
      have hm' : m < M.length := by rw [G.len]; exact hm
      have em : M[m]? = some M[m] := List.getElem?_eq_getElem hm'
      have hc : c < n := (hb _ e).1
      exact hs c hc row h m (G.one c row h m e) _ em o (ih em)
/-- what a change needs itself -/
def directs (ns : List (Nat × Nat)) (c : Nat) : List Nat := (ns.filter fun p => decide (p.1 = c)).map Prod.snd
theorem mem_directs {ns : List (Nat × Nat)} {c o : Nat} : o ∈ directs ns c ↔ (c, o) ∈ ns := by
  unfold directs
  rw [List.mem_map]
  constructor
  · rintro ⟨⟨a, b⟩, h, rfl⟩
    obtain ⟨h1, h2⟩ := List.mem_filter.mp h
    have h2 : a = c := of_decide_eq_true h2
    subst h2
    exact h1
  · exact fun h => ⟨(c, o), List.mem_filter.mpr ⟨h, decide_eq_true rfl⟩, rfl⟩
theorem directs_nd {ns : List (Nat × Nat)} (hn : ns.Nodup) (c : Nat) : (directs ns c).Nodup := by
  unfold directs
  refine List.pairwise_map.mpr ((hn.filter _).imp_of_mem fun {a b} ha hb h e => h ?_)
  have h1 : a.1 = c := of_decide_eq_true (List.mem_filter.mp ha).2
  have h2 : b.1 = c := of_decide_eq_true (List.mem_filter.mp hb).2
  exact Prod.ext (h1.trans h2.symm) e
theorem Going.start {ns : List (Nat × Nat)} {n : Nat} (hn : ns.Nodup) (hb : ∀ p ∈ ns, p.1 < n ∧ p.2 < n) : Going ns n ((List.range n).map (directs ns)) := by
  have key : ∀ c row, ((List.range n).map (directs ns))[c]? = some row → row = directs ns c := fun c row e => by
    rw [List.getElem?_map] at e
    cases z : (List.range n)[c]? with
    | none => rw [z] at e; cases e
    | some d =>
      rw [z] at e
      obtain ⟨h1, h2⟩ := List.getElem?_eq_some_iff.mp z
      rw [List.getElem_range] at h2
      subst h2
      exact (Option.some.inj e).symm
  refine ⟨by rw [List.length_map, List.length_range], fun c row e => ?_, fun c row e o ho => ?_, fun c row e o ho => ?_, fun c row e o ho => ?_⟩
  all_goals rw [key c row e] at *
  · exact directs_nd hn c
  · exact (hb _ (mem_directs.mp ho)).2
  · exact .one (mem_directs.mp ho)
  · exact mem_directs.mpr ho
/-- at D a list of lists, each at its own place -/
structure LL (H : Hp) (D : Addr) (rs : List Addr) (M : List (List Nat)) : Prop where
  top : H D = some (.lst (rs.map V.ref))
  len : rs.length = M.length
  row : ∀ (c : Nat) (r : Addr) (l : List Nat), rs[c]? = some r → M[c]? = some l → H r = some (.lst (l.map nV))
theorem LL.same {H H' : Hp} {D : Addr} {rs : List Addr} {M : List (List Nat)} (h : LL H D rs M) (s : Same H H') : LL H' D rs M := ⟨s _ _ h.top, h.len, fun c r l x y => s _ _ (h.row c r l x y)⟩
theorem LL.get {H : Hp} {D : Addr} {rs : List Addr} {M : List (List Nat)} (h : LL H D rs M) {c : Nat} {l : List Nat} (e : M[c]? = some l) : ∃ r, rs[c]? = some r ∧ H r = some (.lst (l.map nV)) := by
  have hc : c < rs.length := by rw [h.len]; exact (List.getElem?_eq_some_iff.mp e).1
  have er : rs[c]? = some rs[c] := List.getElem?_eq_getElem hc
  exact ⟨_, er, h.row c _ l er e⟩
theorem LL.put {H : Hp} {D : Addr} {rs : List Addr} {M : List (List Nat)} (h : LL H D rs M) (nd : rs.Nodup) (nD : ∀ r ∈ rs, r ≠ D) {c : Nat} {r : Addr} (e : rs[c]? = some r) (l : List Nat) : LL (upd H r (.lst (l.map nV))) D rs (M.set c l) := by
  have hc : c < rs.length := (List.getElem?_eq_some_iff.mp e).1
  refine ⟨by rw [upd_ne (nD r (List.mem_of_getElem? e)).symm]; exact h.top, by rw [List.length_set]; exact h.len, fun d q k x y => ?_⟩
  by_cases z : d = c
  · subst z
    rw [e] at x
    cases x
    rw [List.getElem?_set_self (by rw [← h.len]; exact hc)] at y
    cases y
    exact upd_same
  · rw [List.getElem?_set_ne (fun y => z y.symm)] at y
    have ne : q ≠ r := fun w => by
      subst w
      obtain ⟨l1, e1⟩ := List.getElem?_eq_some_iff.mp x
      obtain ⟨l2, e2⟩ := List.getElem?_eq_some_iff.mp e
      exact z ((List.getElem_inj nd).mp (e1.trans e2.symm))
    rw [upd_ne ne]
    exact h.row d q k x y
end Rip

/-! The law's below. -/
namespace Rip
open PySem PySem.Spec PyProof.Rows L2 RipS
section
variable {P : Program} {w : World} {K : PySem.W.Frag} {mg : Str → Option Value} {base : Heap}
abbrev s_below : Stmt := top 37
theorem ints_shaped (l : List Nat) : SeqAt.shaped (.list (l.map fun x : Nat => PyData.int (x : Int))) = true := by
  have e : (l.map fun x : Nat => PyData.int (x : Int)) = (l.map fun x : Nat => (x : Int)).map PyData.int := by rw [List.map_map]; rfl
  unfold SeqAt.shaped
  rw [e]
  have h1 : (PyData.list ((l.map fun x : Nat => (x : Int)).map PyData.int)).canLay0 = true := canLayAll_ints _
  have h2 : (PyData.list ((l.map fun x : Nat => (x : Int)).map PyData.int)).depth ≤ 64 := by
    show PyData.depthAll ((l.map fun x : Nat => (x : Int)).map PyData.int) + 1 ≤ 64
    rw [depthAll_ints]
    decide
  rw [h1, decide_eq_true h2]
  rfl
theorem dpAll_nats {K : PySem.W.Frag} {H : Hp} : ∀ l : List Nat, DpAll K H (l.map nV) (l.map fun x : Nat => PyData.int (x : Int))
  | [] => .nil
  | x :: l => .cons (.int _) (dpAll_nats l)
theorem eqv_nil : ∀ l : List Nat, PyData.eqv (.list (l.map fun x : Nat => PyData.int (x : Int))) (.list []) = decide (l = [])
  | [] => rfl
  | x :: l => rfl
theorem ms_few {ms : List Int} {l : List Nat} {n : Nat} (nd : ms.Nodup) (mem : ∀ k, k ∈ ms ↔ k ∈ l.map fun x : Nat => (x : Int)) (h : ∀ x ∈ l, x < n) : ms.length ≤ n := by
  have z := nodup_below (n := n) (D := ms.map Int.toNat) (List.pairwise_map.mpr (nd.imp_of_mem fun {x y} hx hy h e => ?_)) fun d hd => ?_
  · rw [List.length_map] at z
    exact z
  · obtain ⟨x1, _, rfl⟩ := List.mem_map.mp ((mem x).mp hx)
    obtain ⟨y1, _, rfl⟩ := List.mem_map.mp ((mem y).mp hy)
    exact h (congrArg (fun z : Nat => (z : Int)) e)
  · obtain ⟨x, hx, rfl⟩ := List.mem_map.mp hd
    obtain ⟨x1, hx1, rfl⟩ := List.mem_map.mp ((mem x).mp hx)
    exact h x1 hx1
/-- the ascending list of whole numbers that has just these -/
theorem ls_nats {ls : List Int} {l : List Nat} (asc : ls.Pairwise (· < ·)) (mem : ∀ k, k ∈ ls ↔ decide (k ∈ l.map fun x : Nat => (x : Int)) = true) : ∃ ks : List Nat, ls = ks.map (fun x : Nat => (x : Int)) ∧ ks.Pairwise (· < ·) ∧ ∀ x, x ∈ ks ↔ x ∈ l := by
  obtain ⟨ks, rfl⟩ := nats_of (bl := l) (ns := ls) fun k hk => of_decide_eq_true ((mem k).mp hk)
  refine ⟨ks, rfl, (List.pairwise_map.mp asc).imp fun h => by omega, fun x => ?_⟩
  have z := mem (x : Int)
  rw [decide_eq_true_eq, List.mem_map, List.mem_map] at z
  constructor
  · intro h
    obtain ⟨y, hy, e⟩ := z.mp ⟨x, h, rfl⟩
    have : y = x := by omega
    exact this ▸ hy
  · intro h
    obtain ⟨y, hy, e⟩ := z.mpr ⟨x, h, rfl⟩
    have : y = x := by omega
    exact this ▸ hy
/-- at D a list of lots: of each change all that it needs -/
def FarLots (K : PySem.W.Frag) (H : Hp) (D : Addr) (n : Nat) (ns : List (Nat × Nat)) : Prop := ∃ (rs : List Addr) (M : List (List Nat)), H D = some (.lst (rs.map V.ref)) ∧ rs.length = n ∧ M.length = n ∧ ∀ (c : Nat) (r : Addr) (l : List Nat), rs[c]? = some r → M[c]? = some l → SqT K H r (l.map nV) ∧ l.Pairwise (· < ·) ∧ ∀ o, o ∈ l ↔ Far ns c o
theorem FarLots.same {H H' : Hp} {D : Addr} {n : Nat} {ns : List (Nat × Nat)} (h : FarLots K H D n ns) (s : Same H H') : FarLots K H' D n ns := by
  obtain ⟨rs, M, h1, h2, h3, h4⟩ := h
  exact ⟨rs, M, s _ _ h1, h2, h3, fun c r l x y => ⟨same_seqT s (h4 c r l x y).1, (h4 c r l x y).2⟩⟩
def spFarLots (K : PySem.W.Frag) : Sp := fun vs H Q _ => ∃ (n : Nat) (a : Addr) (ns : List (Nat × Nat)), vs = [nV n, .ref a] ∧ PairsAt K H a ns ∧ ns.Nodup ∧ (∀ p ∈ ns, p.1 < n ∧ p.2 < n) ∧ n ≤ 60 ∧ ns.length ≤ 4000 ∧
  ∀ (D : Addr) (H' : Hp), Same H H' → H D = none → FarLots K H' D n ns → Q (.ref D) H'
abbrev scWbN : List Str := ["_law_many", "_law_needs_here", "_law_made", "_law_one", "_law_other", "_law_change", "_law_again", "_law_more", "_law_row"]
theorem scWb : FnScope scWbN ["_law_many", "_law_needs_here"] (defScope s_below) := ⟨rfl, rfl, rfl, by decide +kernel, rfl, by decide +kernel, by decide +kernel⟩
theorem ok_below {f : Addr} {fd : FuncData} (F : Fun K "_law_below" "_law_below" s_below f fd) (B : Blt mg) (hst : mg "set" = none) (hsr : mg "sorted" = none) : FnOk P w K mg base CX0 1 f fd ["_law_many", "_law_needs_here"] (spFarLots K) := by
  refine F.ok scWb (fun vs H Q E h => ?_) (fun cdv A outer s H vs Q E hr h => ?_)
  · obtain ⟨n, a, ns, rfl, _⟩ := h
    rfl
  · obtain ⟨n, a, ns, rfl, PA, hnd, hb, hn, hl, q⟩ := h
    have hu := hu_of hr
    refine ⟨_,
      (pss_cons (ps_set (i := 2) scWb.nd rfl (.inr rfl) (pe_lc (own := [("_law_change", 5)]) (g := gName 5) (tt := tYes) (te := tLc (iTup K (tVar 1)) (gTwo K 3 4) (tTest (tOp rEq (tVar 3) (tVar 5))) (tVar 4) [3, 4]) rfl scWb.nd (pi_range1 rfl B.range (pa_cons (pv 0) pa_nil)) (blkOk_by (own := [("_law_change", 5)]) (N := scWbN) (sc := defScope s_below) (by decide +kernel)) (fun _ _ _ _ _ => (pg_name (i := 5) scWb.nd rfl (.inr rfl))) (fun _ _ _ _ _ => pts_nil)
        (fun _ _ _ _ _ => (pe_lc (own := [("_law_one", 3), ("_law_other", 4)]) (g := gTwo K 3 4) (tt := tTest (tOp rEq (tVar 3) (tVar 5))) rfl scWb.nd (pi_tup (pv 1)) (blkOk_by (own := [("_law_one", 3), ("_law_other", 4)]) (N := scWbN) (sc := { kind := .function, names := [(".0", .local), ("_law_change", .cell), ("_law_needs_here", .cell)], isGenerator := false, isCoroutine := false }) (by decide +kernel)) (fun _ _ _ _ _ => (pg_tup rfl (pgs_cons (pg_name (i := 3) scWb.nd rfl (.inl rfl)) (pgs_cons (pg_name (i := 4) scWb.nd rfl (.inl rfl)) pgs_nil)))) (fun _ _ _ _ _ => (pts_one (pt_cmpR op_eq (pv 3) (pv 5) (nomark _)))) (fun _ _ _ _ _ => (pv 4))))))
      (pss_cons (ps_set (i := 6) scWb.nd rfl (.inl rfl) pe_bl)
      (pss_cons (ps_while PassesOwn.never (pt_val (pv 6))
        (pss_cons (ps_set (i := 6) scWb.nd rfl (.inl rfl) pe_bl)
        (pss_one (ps_for PassesOwn.never rfl (pi_range1 rfl B.range (pa_cons (pv 0) pa_nil)) (pg_name (i := 5) scWb.nd rfl (.inr rfl))
          (pss_one (ps_for PassesOwn.never rfl (pi_list (pe_callTy call_list_of (by rfl) B.list PyProof.Rows.boot_list (pa_cons (pe_ix ix_list (pv 2) (pv 5) (fun _ _ => rfl)) pa_nil))) (pg_name (i := 4) scWb.nd rfl (.inl rfl))
            (pss_cons (ps_setLc (i := 7) (own := [("_law_one", 3)]) (g := gName 3) (tt := tTest (tOp (rIn K true) (tVar 3) (tOp (rIxL K) (tVar 2) (tVar 5)))) rfl scWb.nd rfl rfl (sw_true rfl rfl rfl (by decide +kernel)) (pi_list (pe_ix ix_list (pv 2) (pv 4) (fun _ _ => rfl))) (blkOk_by (own := [("_law_one", 3)]) (N := scWbN) (sc := defScope s_below) (by decide +kernel)) (fun _ _ _ _ _ => (pg_name (i := 3) scWb.nd rfl (.inl rfl))) (fun _ _ _ _ _ => (pts_one (pt_cmpR op_notIn_seq (pv 3) (pe_ix ix_list (pv 2) (pv 5) (fun _ _ => rfl)) (by with_unfolding_all rfl)))) (fun _ _ _ _ _ => (pv 3)))
            (pss_one (ps_if (pt_cmpR (op_neD hr.units) (pv 7) (pe_lst pa_nil) (nomark _))
              (pss_cons (ps_expr (pe_bm PySem.F.plainAttrs_list PySem.F.slot_list_extend PySem.F.type_list_extend mt_extend (pe_ix ix_list (pv 2) (pv 5) (fun _ _ => rfl)) (pa_cons (pv 7) pa_nil)))
              (pss_one (ps_set (i := 6) scWb.nd rfl (.inl rfl) pe_bl))) pss_nil)))))))))
      (pss_one (ps_ret (pe_lc (own := [("_law_row", 8)]) (g := gName 8) (tt := tYes) (te := tThen (tCB (rSortedSet w) (tCons (tCB (rSetI K w) (tCons (tVar 8) tNil)) tNil)) (kTup K)) rfl scWb.nd (pi_list (pv 2)) (blkOk_by (own := [("_law_row", 8)]) (N := scWbN) (sc := defScope s_below) (by decide +kernel)) (fun _ _ _ _ _ => (pg_name (i := 8) scWb.nd rfl (.inl rfl))) (fun _ _ _ _ _ => pts_nil)
        (fun _ _ _ _ _ => (pe_tupleOf (by rfl) B.tuple (pe_callB (cr_sortedSet rfl) (by rfl) hsr boot_sortedI (pa_cons (pe_callTy (cr_setI rfl) (by rfl) hst boot_setI (pa_cons (pv 8) pa_nil)) pa_nil)))))))))), ?_⟩
    obtain ⟨ps, hS, hpl, hps⟩ := id PA
    refine ⟨_, rfl, _, rfl, by omega, by omega, fun D nD => ?_⟩
    rw [show ((n : Int)).toNat = n from Int.toNat_natCast n]
    refine lc_range (n := n) (fun i H2 => Same H H2 ∧ ∃ rs : List Addr, LL H2 D rs ((List.range i).map (directs ns)) ∧ rs.Nodup ∧ ∀ r ∈ rs, H r = none ∧ r ≠ D)
      ⟨same_upd nD, [], ⟨upd_same, rfl, fun c r l x => by cases x⟩, .nil, fun r h => nomatch h⟩ ?_ ?_
    · rintro i H2 hi ⟨s2, rs, ll, nd, fr⟩
      refine ⟨rfl, _, rfl, a, rfl, ⟨_, same_seqT s2 hS⟩, fun T nT => ?_⟩
      have nT0 : H T = none := s2.free nT
      refine lc_tup (K := K) (a := a) (xs := ps.map V.ref) (fun j H3 => Same H2 H3 ∧ H3 T = some (.lst ((directs (ns.take j) i).map nV)) ∧ (directs (ns.take j) i).length ≤ j)
        ⟨same_upd nT, upd_same, Nat.zero_le _⟩ (fun j H3 _ z => same_seqT (s2.trans z.1) hS) ?_ ?_
      · rintro j x H3 ex ⟨s3, e3, l3⟩
        rw [List.getElem?_map] at ex
        cases ep : ps[j]? with
        | none => rw [ep] at ex; cases ex
        | some r =>
          rw [ep] at ex
          cases ex
          have hj := (List.getElem?_eq_some_iff.mp ep).1
          rw [hpl] at hj
          have en : ns[j]? = some ns[j] := List.getElem?_eq_getElem hj
          generalize ns[j] = z at en
          have hr := same_seqT (s2.trans s3) (hps j r z ep en)
          have su : directs (ns.take (j + 1)) i = directs (ns.take j) i ++ (if z.1 = i then [z.2] else []) := by
            unfold directs
            rw [take_one en, List.filter_append, List.map_append, List.filter_cons]
            by_cases y : z.1 = i
            · rw [if_pos (decide_eq_true y), if_pos y]
              rfl
            · rw [if_neg (by simpa using y), if_neg y]
              rfl
          refine ⟨r, _, rfl, hr, rfl, _, _, rfl, _, [], rfl, rfl, ?_⟩
          refine ⟨rfl, _, rfl, _, rfl, rfl, _, rfl, ?_⟩
          refine ite_ok (fun hz => ?_) fun hz => ?_
          · have y : z.1 = i := by injection hz with hz; omega
            rw [if_pos y] at su
            refine ⟨_, rfl, _, e3, by rw [List.length_map, sizeLine_eq]; omega, same_put s3 nT, ?_, ?_⟩
            · rw [upd_same, su, List.map_append]
              rfl
            · rw [su, List.length_append]
              exact Nat.succ_le_succ l3
          · have y : ¬ z.1 = i := fun y => hz (by rw [y]; exact congrArg V.int (Int.zero_add _).symm)
            rw [if_neg y, List.append_nil] at su
            rw [su]
            exact ⟨s3, e3, by omega⟩
      · rintro H3 ⟨s3, e3, _⟩
        rw [List.length_map, hpl, List.take_length] at e3
        have ll3 := ll.same s3
        have lr : rs.length = i := by rw [ll.len, List.length_map, List.length_range]
        have nTD : D ≠ T := ne_of_none ll.top nT
        have nTr : ∀ r ∈ rs, r ≠ T := fun r hr => by
          obtain ⟨c, hc, ec⟩ := List.getElem_of_mem hr
          have e1 : rs[c]? = some r := by rw [List.getElem?_eq_getElem hc, ec]
          have e2 : ((List.range i).map (directs ns))[c]? = some (directs ns c) := by rw [List.getElem?_map, List.getElem?_range (by omega)]; rfl
          exact ne_of_none (ll.row c r _ e1 e2) nT
        refine ⟨_, ll3.top, by rw [List.length_map, sizeLine_eq]; omega, same_put (s2.trans s3) nD, rs ++ [T], ⟨by rw [upd_same, List.map_append]; rfl, by rw [List.length_append, List.length_map, List.length_range, lr]; rfl, fun c r l x y => ?_⟩, ?_, fun r hr => ?_⟩
        · by_cases hc : c < rs.length
          · rw [List.getElem?_append_left hc] at x
            have e2 : ((List.range i).map (directs ns))[c]? = some (directs ns c) := by rw [List.getElem?_map, List.getElem?_range (by omega)]; rfl
            have e4 : ((List.range (i + 1)).map (directs ns))[c]? = some (directs ns c) := by rw [List.getElem?_map, List.getElem?_range (by omega)]; rfl
            rw [e4] at y
            cases y
            rw [upd_ne (fr r (List.mem_of_getElem? x)).2]
            exact ll3.row c r _ x e2
          · have hc2 : c = rs.length := by
              have := (List.getElem?_eq_some_iff.mp x).1
              rw [List.length_append] at this
              have : c < rs.length + 1 := this
              omega
            subst hc2
            rw [List.getElem?_append_right (Nat.le_refl _), Nat.sub_self] at x
            have x : T = r := Option.some.inj x
            subst x
            have e4 : ((List.range (i + 1)).map (directs ns))[rs.length]? = some (directs ns i) := by rw [lr, List.getElem?_map, List.getElem?_range (by omega)]; rfl
            rw [e4] at y
            cases y
            rw [upd_ne nTD.symm]
            exact e3
        · exact List.nodup_append.mpr ⟨nd, by simp, fun x hx y hy => by rw [List.mem_singleton.mp hy]; exact nTr x hx⟩
        · rcases List.mem_append.mp hr with h | h
          · exact fr r h
          · rw [List.mem_singleton.mp h]
            exact ⟨nT0, nTD.symm⟩
    rintro H2 ⟨s2, rs, ll, nd, fr⟩
    have G0 := Going.start (n := n) hnd hb
    dsimp only [gName]
    refine st_eq (σ' := [some (nV n), some (.ref a), some (.ref D), none, none, none, none, none, none]) rfl ?_
    -- on and on
    refine ⟨fun m σ H3 => ∃ (M : List (List Nat)) (ag : Bool) (x3 x4 x5 x7 x8 : Option V), σ = [some (nV n), some (.ref a), some (.ref D), x3, x4, x5, some (.bl ag), x7, x8] ∧ Same H H3 ∧ LL H3 D rs M ∧ Going ns n M ∧ (ag = false → ∀ c, c < n → Shut M c) ∧ m = (if ag = true then 1 + (n * n - tot M) else 0),
      ⟨_, _, true, none, none, none, none, none, rfl, s2, ll, G0, (fun z => by cases z), rfl⟩, ?_⟩
    rintro m σ H3 ⟨M, ag, x3, x4, x5, x7, x8, rfl, s3, ll3, G, sh, em⟩
    refine ⟨_, rfl, _, rfl, ?_⟩
    cases ag with
    | true =>
      refine iteT ⟨_, fun σ' H' z => z, ?_⟩
      rw [if_pos rfl] at em
      refine ⟨_, rfl, _, rfl, by omega, by omega, ?_⟩
      rw [show ((n : Int)).toNat = n from Int.toNat_natCast n]
      refine for_range (n := n) (fun i σ H4 => ∃ (M2 : List (List Nat)) (ag : Bool) (y3 y4 y5 y7 y8 : Option V), σ = [some (nV n), some (.ref a), some (.ref D), y3, y4, y5, some (.bl ag), y7, y8] ∧ Same H H4 ∧ LL H4 D rs M2 ∧ Going ns n M2 ∧ (ag = false → M2 = M ∧ ∀ c, c < i → Shut M c) ∧ (ag = true → tot M < tot M2))
        ⟨M, false, x3, x4, x5, x7, x8, rfl, s3, ll3, G, fun _ => ⟨rfl, fun c h => absurd h (Nat.not_lt_zero _)⟩, fun z => by cases z⟩ ?_ ?_
      · rintro i σ H4 hi ⟨M2, ag, y3, y4, y5, y7, y8, rfl, s4, ll4, G2, f4, t4⟩
        have hi2 : i < M2.length := by rw [G2.len]; exact hi
        have er : M2[i]? = some M2[i] := List.getElem?_eq_getElem hi2
        generalize M2[i] = row0 at er
        obtain ⟨ri, eri, hri⟩ := ll4.get er
        have l0 := G2.row_len er
        refine ⟨_, rfl, _, rfl, D, _, _, .ref ri, rfl, rfl, .inl (.inl ll4.top), at_of (j := i) (Int.zero_add _) (by rw [List.getElem?_map, eri]; rfl), ?_⟩
        refine ⟨ri, _, rfl, .inl (.inl (.inl hri)), fun T nT => ?_⟩
        have nT0 : H T = none := s4.free nT
        have ll5 := ll4.same (same_upd (o := .lst (row0.map nV)) nT)
        have s5 := s4.trans (same_upd (o := .lst (row0.map nV)) nT)
        have eT : upd H4 T (.lst (row0.map nV)) T = some (.lst (row0.map nV)) := upd_same
        have nTr : ∀ r ∈ rs, T ≠ r := fun r hr => by
          obtain ⟨c, hc, ec⟩ := List.getElem_of_mem hr
          have e1 : rs[c]? = some r := by rw [List.getElem?_eq_getElem hc, ec]
          have hc2 : c < M2.length := by rw [← ll4.len]; exact hc
          exact (ne_of_none (ll4.row c r _ e1 (List.getElem?_eq_getElem hc2)) nT).symm
        generalize upd H4 T (.lst (row0.map nV)) = H5 at ll5 s5 eT ⊢
        refine ⟨T, rfl, ⟨_, .inl (.inl eT)⟩, for_it (walk_list (K := K) (a := T) (xs := row0.map nV)) (fun j σ H6 => ∃ (M3 : List (List Nat)) (row : List Nat) (ag : Bool) (z3 z4 z7 z8 : Option V), σ = [some (nV n), some (.ref a), some (.ref D), z3, z4, some (.int (0 + (i : Int))), some (.bl ag), z7, z8] ∧ Same H H6 ∧ H6 T = some (.lst (row0.map nV)) ∧ LL H6 D rs M3 ∧ Going ns n M3 ∧ M3[i]? = some row ∧ (∀ o ∈ row0, o ∈ row) ∧
            (ag = false → M3 = M ∧ row = row0 ∧ (∀ c, c < i → Shut M c) ∧ ∀ (k o : Nat), k < j → row0[k]? = some o → ∀ r2, M[o]? = some r2 → ∀ x ∈ r2, x ∈ row0) ∧ (ag = true → tot M < tot M3))
          ⟨M2, row0, ag, y3, y4, y7, y8, rfl, s5, eT, ll5, G2, er, fun o h => h, fun z => ⟨(f4 z).1, rfl, (f4 z).2, fun k o h => absurd h (Nat.not_lt_zero _)⟩, t4⟩ (fun j σ H6 _ ⟨_, _, _, _, _, _, _, _, _, z, _⟩ => .inl (.inl z)) ?_ ?_⟩
        · rintro j x σ H6 H7 hj ⟨M3, row, ag3, z3, z4, z7, z8, rfl, s6, eT6, ll6, G3, er3, sub, f6, t6⟩ ⟨rfl, ex⟩
          rw [List.length_map] at hj
          rw [List.getElem?_map] at ex
          have eo : row0[j]? = some row0[j] := List.getElem?_eq_getElem hj
          rw [eo] at ex
          cases ex
          have ho0 : row0[j] ∈ row0 := List.getElem_mem hj
          generalize row0[j] = o at eo ho0
          have hon : o < n := G3.lt i row er3 o (sub o ho0)
          have ho2 : o < M3.length := by rw [G3.len]; exact hon
          have er2 : M3[o]? = some M3[o] := List.getElem?_eq_getElem ho2
          generalize M3[o] = r2 at er2
          obtain ⟨ro, ero, hro⟩ := ll6.get er2
          have hri6 := ll6.row i ri row eri er3
          have l2 := G3.row_len er2
          have lrow := G3.row_len er3
          refine ⟨_, rfl, _, rfl, D, _, _, .ref ro, rfl, rfl, .inl (.inl ll6.top), at_of (j := o) rfl (by rw [List.getElem?_map, ero]; rfl), ro, rfl, ⟨_, .inl (.inl hro)⟩, fun W nW => ?_⟩
          have nW0 : H W = none := s6.free nW
          refine lc_walk (walk_list (K := K) (a := ro) (xs := r2.map nV)) (fun k H8 => Same H7 H8 ∧ H8 W = some (.lst (((r2.take k).filter fun x => decide (x ∉ row)).map nV)) ∧ ((r2.take k).filter fun x => decide (x ∉ row)).length ≤ k)
            ⟨same_upd nW, upd_same, Nat.zero_le _⟩ (fun k H8 _ z => .inl (.inl (z.1 _ _ hro))) ?_ ?_
          · rintro k x H8 H9 hk ⟨s8, e8, l8⟩ ⟨rfl, ex⟩
            rw [List.length_map] at hk
            rw [List.getElem?_map] at ex
            have ek : r2[k]? = some r2[k] := List.getElem?_eq_getElem hk
            rw [ek] at ex
            cases ex
            generalize r2[k] = x at ek
            have su : ((r2.take (k + 1)).filter fun x => decide (x ∉ row)) = ((r2.take k).filter fun x => decide (x ∉ row)) ++ (if decide (x ∉ row) = true then [x] else []) := by
              rw [take_one ek, List.filter_append, List.filter_cons]
              rfl
            refine ⟨rfl, _, rfl, _, rfl, _, rfl, D, _, _, .ref ri, rfl, rfl, .inl (.inl (s8 _ _ ll6.top)), at_of (j := i) (Int.zero_add _) (by rw [List.getElem?_map, eri]; rfl), ri, _, rfl, .inl (.inl (.inl (s8 _ _ hri6))), rfl, by rw [List.all_map]; exact List.all_eq_true.mpr fun _ _ => rfl, _, rfl, ?_⟩
            show if (!inV (nV x) (row.map nV)) = true then _ else _
            rw [inV_nat]
            have eD : (!decide (x ∈ row)) = decide (x ∉ row) := by
              by_cases z : x ∈ row
              · rw [decide_eq_true z, decide_eq_false (fun y => y z)]; rfl
              · rw [decide_eq_false z, decide_eq_true z]; rfl
            rw [eD]
            refine ite_ok (fun hz => ?_) fun hz => ?_
            · rw [if_pos (decide_eq_true hz)] at su
              refine ⟨_, rfl, _, e8, by rw [List.length_map, sizeLine_eq]; omega, same_put s8 nW, ?_, ?_⟩
              · rw [upd_same, su, List.map_append]
                rfl
              · rw [su, List.length_append]
                exact Nat.succ_le_succ l8
            · rw [if_neg (by simpa using hz), List.append_nil] at su
              rw [su]
              exact ⟨s8, e8, by omega⟩
          · rintro H8 ⟨s8, e8, l8⟩
            rw [List.length_map, List.take_length] at e8
            rw [List.length_map, List.take_length] at l8
            have s68 := s6.trans s8
            have ll8 := ll6.same s8
            have hri8 := s8 _ _ hri6
            have nWr : ri ≠ W := ne_of_none hri6 nW
            dsimp only [gName]
            refine st_eq (σ' := [some (nV n), some (.ref a), some (.ref D), z3, some (nV o), some (.int (0 + (i : Int))), some (.bl ag3), some (.ref W), z8]) rfl ?_
            refine ⟨_, rfl, Nat.zero_le _, fun E nE => ?_⟩
            have s9 : Same H8 (upd H8 E (.lst [])) := same_upd nE
            have eE : upd H8 E (.lst []) E = some (.lst []) := upd_same
            generalize upd H8 E (.lst []) = H9 at s9 eE ⊢
            refine ⟨.list ((r2.filter fun x => decide (x ∉ row)).map fun x : Nat => PyData.int (x : Int)), .list [], .lst (.inl (.inl (s9 _ _ e8))) (dpAll_nats _), .lst (.inl (.inl eE)) .nil, ints_shaped _, by decide, _, rfl, ?_⟩
            rw [eqv_nil]
            have ll9 := ll8.same s9
            have e9 := s9 _ _ e8
            have hri9 := s9 _ _ hri8
            have s69 := s68.trans s9
            have eT9 := s9 _ _ (s8 _ _ eT6)
            by_cases hz : (r2.filter fun x => decide (x ∉ row)) = []
            · rw [decide_eq_true hz]
              refine iteF ⟨M3, row, ag3, _, _, _, _, rfl, s69, eT9, ll9, G3, er3, sub, fun z => ?_, t6⟩
              obtain ⟨g1, g2, g3, g4⟩ := f6 z
              refine ⟨g1, g2, g3, fun k p hk ep q2 eq x hx => ?_⟩
              by_cases y : k = j
              · subst y
                rw [eo] at ep
                cases ep
                rw [← g1, er2] at eq
                cases eq
                by_cases w : x ∈ row0
                · exact w
                · have : x ∈ r2.filter fun x => decide (x ∉ row) := List.mem_filter.mpr ⟨hx, decide_eq_true (by rw [g2]; exact w)⟩
                  rw [hz] at this
                  cases this
              · exact g4 k p (by omega) ep q2 eq x hx
            · rw [decide_eq_false hz]
              refine iteT ?_
              refine ⟨_, rfl, _, rfl, D, _, _, .ref ri, rfl, rfl, .inl (.inl ll9.top), at_of (j := i) (Int.zero_add _) (by rw [List.getElem?_map, eri]; rfl), .inl ⟨rfl, _, .inl (.inl hri9)⟩, _, rfl, ri, W, _, _, rfl, rfl, hri9, e9, by rw [List.length_map, List.length_map, sizeLine_eq]; omega, ?_⟩
              have put := ll9.put nd (fun r hr => (fr r hr).2) eri (row ++ r2.filter fun x => decide (x ∉ row))
              rw [List.map_append] at put
              have nri0 : H ri = none := (fr ri (List.mem_of_getElem? eri)).1
              have pos : 0 < (r2.filter fun x => decide (x ∉ row)).length := List.length_pos_iff.mpr hz
              have tt := tot_set (M := M3) (c := i) (row := row) (more := r2.filter fun x => decide (x ∉ row)) er3
              have hi3 : i < M3.length := by rw [G3.len]; exact hi
              refine ⟨M3.set i (row ++ r2.filter fun x => decide (x ∉ row)), row ++ r2.filter fun x => decide (x ∉ row), true, _, _, _, _, rfl, same_put s69 nri0, by rw [upd_ne (nTr ri (List.mem_of_getElem? eri))]; exact eT9, put, G3.more er3 (sub o ho0) er2, List.getElem?_set_self hi3, fun p hp => List.mem_append.mpr (.inl (sub p hp)), fun z => (by cases z), fun _ => ?_⟩
              rw [tt]
              cases ag3 with
              | true => have := t6 rfl; omega
              | false => rw [(f6 rfl).1]; omega
        · rintro σ H6 ⟨M3, row, ag3, z3, z4, z7, z8, rfl, s6, eT6, ll6, G3, er3, sub, f6, t6⟩
          refine ⟨M3, ag3, _, _, _, _, _, rfl, s6, ll6, G3, fun z => ?_, t6⟩
          obtain ⟨g1, g2, g3, g4⟩ := f6 z
          refine ⟨g1, fun c hc => ?_⟩
          by_cases y : c = i
          · subst y
            intro rw_ e o ho q2 eq x hx
            rw [g1, g2] at er3
            rw [er3] at e
            cases e
            obtain ⟨k, hk, ek⟩ := List.getElem_of_mem ho
            exact g4 k o (by rw [List.length_map]; exact hk) (by rw [List.getElem?_eq_getElem hk, ek]) q2 eq x hx
          · exact g3 c (by omega)
      · rintro σ H4 ⟨M2, ag, y3, y4, y5, y7, y8, rfl, s4, ll4, G2, f4, t4⟩
        refine ⟨_, ?_, M2, ag, _, _, _, _, _, rfl, s4, ll4, G2, fun z => by rw [(f4 z).1]; exact (f4 z).2, rfl⟩
        have b1 := G.tot_le
        have b2 := G2.tot_le
        rw [em]
        cases ag with
        | true =>
          rw [if_pos rfl]
          have := t4 rfl
          omega
        | false =>
          rw [if_neg (by simp)]
          omega
    | false =>
      refine iteF ?_
      have full := fun {c : Nat} {row : List Nat} (e : M[c]? = some row) (o : Nat) => G.all hb (sh rfl) e o
      have rl : rs.length = n := by rw [ll3.len, G.len]
      refine ⟨_, rfl, D, rfl, ⟨_, .inl (.inl ll3.top)⟩, fun U nU => ?_⟩
      have nU0 : H U = none := s3.free nU
      refine lc_walk (walk_list (K := K) (a := D) (xs := rs.map V.ref)) (fun i H4 => Same H3 H4 ∧ ∃ (ts : List Addr) (Ms : List (List Nat)), H4 U = some (.lst (ts.map V.ref)) ∧ ts.length = i ∧ Ms.length = i ∧ ∀ (c : Nat) (r : Addr) (l : List Nat), ts[c]? = some r → Ms[c]? = some l → SqT K H4 r (l.map nV) ∧ l.Pairwise (· < ·) ∧ ∀ o, o ∈ l ↔ Far ns c o)
        ⟨same_upd nU, [], [], upd_same, rfl, rfl, fun c r l x => by cases x⟩ (fun i H4 _ z => .inl (.inl (z.1 _ _ ll3.top))) ?_ ?_
      · rintro i x H4 H5 hi ⟨s4, ts, Ms, eU, tl, ml, at4⟩ ⟨rfl, ex⟩
        rw [List.length_map] at hi
        rw [List.getElem?_map] at ex
        have er : rs[i]? = some rs[i] := List.getElem?_eq_getElem hi
        rw [er] at ex
        cases ex
        generalize rs[i] = ri at er
        have hi2 : i < M.length := by rw [← ll3.len]; exact hi
        have em2 : M[i]? = some M[i] := List.getElem?_eq_getElem hi2
        generalize M[i] = row at em2
        have hri := s4 _ _ (ll3.row i ri row er em2)
        have lrow := G.row_len em2
        refine ⟨rfl, _, rfl, ri, row.map (fun x : Nat => (x : Int)), rfl, .inl (.inl (.inl (by rw [← map_nV]; exact hri))), by rw [List.length_map]; omega, fun S ms ndm mem nS => ?_⟩
        refine ⟨S, _, ms.length, rfl, upd_same, by have := ms_few ndm mem (G.lt i row em2); omega, fun ls L asc memL lenL nL => ?_⟩
        obtain ⟨ks, rfl, ascK, memK⟩ := ls_nats asc memL
        rw [← map_nV]
        refine .inl ⟨L, _, rfl, .inl (.inl upd_same), fun t2 n2 => ?_⟩
        have s6 := ((same_upd nS).trans (same_upd (o := .lst (ks.map nV)) nL)).trans (same_upd (o := .tup (ks.map nV)) n2)
        have nt : U ≠ t2 := ne_of_none (((same_upd nS).trans (same_upd (o := .lst (ks.map nV)) nL)) _ _ eU) n2
        have e6 := s6 _ _ eU
        refine ⟨_, e6, by rw [List.length_map, sizeLine_eq]; omega, same_put (s4.trans s6) nU, ts ++ [t2], Ms ++ [ks], by rw [upd_same, List.map_append]; rfl, by rw [List.length_append, tl]; rfl, by rw [List.length_append, ml]; rfl, fun c r l x y => ?_⟩
        by_cases hc : c < ts.length
        · rw [List.getElem?_append_left hc] at x
          rw [List.getElem?_append_left (by omega)] at y
          obtain ⟨g1, g2, g3⟩ := at4 c r l x y
          exact ⟨seqT_putL e6 (same_seqT s6 g1), g2, g3⟩
        · have e : c = ts.length := by
            have := (List.getElem?_eq_some_iff.mp x).1
            rw [List.length_append] at this
            have : c < ts.length + 1 := this
            omega
          subst e
          rw [List.getElem?_append_right (Nat.le_refl _), Nat.sub_self] at x
          rw [tl, ← ml, List.getElem?_append_right (Nat.le_refl _), Nat.sub_self] at y
          have x' : t2 = r := Option.some.inj x
          have y' : ks = l := Option.some.inj y
          subst x' y'
          refine ⟨seqT_putL e6 (.inl (.inl upd_same)), ascK, fun o => ?_⟩
          rw [memK, tl]
          exact full em2 o
      · rintro H4 ⟨s4, ts, Ms, eU, tl, ml, at4⟩
        rw [List.length_map, rl] at tl ml
        exact q U H4 (s3.trans s4) nU0 ⟨ts, Ms, eU, tl, ml, at4⟩
end
end Rip

/-! xs.extend(t), t a tuple. -/
namespace RipS
open PySem PySem.Spec PyProof.Rows L2
theorem ext_tup (l b : Addr) (xs ys : Array Value) (n m : Nat) (d : Option Addr) (sl : Array (Option Value)) (short : ¬ (!xs.isEmpty && Builtin.List.listTooLong (xs.size + ys.size)) = true) (h1 : xs.size ≤ sizeLine) (h2 : xs.size + ys.size ≤ sizeLine + 1) :
    Meets (Builtin.«list.extend» ⟨[.ref l, .ref b], []⟩) (fun _ R s => s.heap.get? l = some { cls := .type "list", dict := none, data := .seq xs n, slots := #[] } ∧ s.heap.get? b = some { cls := .type "tuple", dict := d, data := .seq ys m, slots := sl } ∧
      R (.ok (.ret Value.none)) { s with heap := s.heap.update l (Obj.mapSeq fun x => x ++ ys), toks := s.toks }) :=
  .of_wp fun prog w A R s h => by
    obtain ⟨hp, gg, dd, tk, oo⟩ := s
    obtain ⟨el, eb, q⟩ := h
    have f1 := PySem.AutoSeq1.idx_int
    have f2 := PySem.AutoSeq1.sub_list_list
    have f3 := PySem.AutoSeq1.sub_tuple_list
    have f4 := PySem.AutoSeq1.sub_list_tuple
    have f5 := PySem.AutoSeq1.sub_tuple_tuple
    have h3 : (xs ++ ys).size ≤ sizeLine + 1 := by rw [Array.size_append]; exact h2
    wp_walk using (wpAny_updateSeq el rfl (hz := h1) (_hz' := h3)), PySem.AutoSeq1.wpAny_loadPart' el, PySem.AutoSeq1.wpAny_loadPart' eb
    exact ⟨_, rfl, q⟩
def rExtT (K : PySem.W.Frag) : V → List V → Hp → VK → Prop := fun x vs H Q => ∃ l b xs zs, x = .ref l ∧ vs = [.ref b] ∧ H l = some (.lst xs) ∧ SqT K H b zs ∧ xs.length + zs.length ≤ sizeLine ∧ Q .non (upd H l (.lst (xs ++ zs)))
theorem mt_extT {X : Cx} : MtR X "list.extend" (rExtT X.K) := by
  intro pins s σ H x vs v us Q I rx rv h
  obtain ⟨l, b, xs, zs, rfl, rfl, hl, hb, hz, q⟩ := h
  cases rx
  obtain ⟨u, rfl, ru⟩ := rv.one
  cases ru
  obtain ⟨z, its, n, r, len, e⟩ := I.lstM hl
  obtain ⟨jts, r2, ⟨⟨cls, dd, dt, sl⟩, ho, hc, m, hd⟩, hz2⟩ := I.tuple hb
  simp only at hc hd
  subst hc hd
  have l2 := r2.length
  have sz : its.toArray.size + jts.toArray.size ≤ sizeLine := by rw [List.size_toArray, List.size_toArray]; omega
  refine call_meets PySem.F.slot_list_extend ⟨_, e, rfl⟩ PySem.F.entry_list_extend (PySem.F.args_list_extend_2 _ _)
    (ext_tup l b its.toArray jts.toArray n m dd sl (by rw [notLongL sz, Bool.and_false]; exact Bool.false_ne_true) (by rw [List.size_toArray]; omega) (by omega)) ⟨e, ho, ?_⟩
  exact ⟨.non, _, I.lset (its' := its ++ jts) hl e (by simp) (r.append r2) (by rw [List.length_append]; omega), rfl, q⟩
end RipS

/-! The law's closed. -/
namespace Rip
open PySem PySem.Spec PyProof.Rows L2 RipS
theorem FarLots.kp {K : PySem.W.Frag} {H H' : Hp} {b g D : Addr} {n : Nat} {ns : List (Nat × Nat)} (h : FarLots K H D n ns) (B : BagAt H b g) (n1 : D ≠ b) (n2 : D ≠ g) (k : Kp b g H H') : FarLots K H' D n ns := by
  obtain ⟨rs, M, h1, h2, h3, h4⟩ := h
  exact ⟨rs, M, k _ _ h1 n1 n2 (fun ps z => by cases z), h2, h3, fun c r l x y => ⟨seqT_kp B k (h4 c r l x y).1, (h4 c r l x y).2⟩⟩
theorem FarLots.put {K : PySem.W.Frag} {H : Hp} {D L : Addr} {n : Nat} {ns : List (Nat × Nat)} {xs : List V} {o : HO} (h : FarLots K H D n ns) (e : H L = some (.lst xs)) (ne : D ≠ L) : FarLots K (upd H L o) D n ns := by
  obtain ⟨rs, M, h1, h2, h3, h4⟩ := h
  exact ⟨rs, M, by rw [upd_ne ne]; exact h1, h2, h3, fun c r l x y => ⟨seqT_putL e (h4 c r l x y).1, (h4 c r l x y).2⟩⟩
/-- with each change all that it needs -/
def ClosedL (ns : List (Nat × Nat)) (l : List Nat) : Prop := ∀ c ∈ l, ∀ o, Far ns c o → o ∈ l
section
variable {P : Program} {w : World} {K : PySem.W.Frag} {mg : Str → Option Value} {base : Heap}
abbrev s_closed : Stmt := top 42
def spClosed (K : PySem.W.Frag) : Sp := fun vs H Q _ => ∃ (b g mt na : Addr) (bl : List Nat) (ns : List (Nat × Nat)), vs = [.ref b, .ref mt, .ref na] ∧ BagAt H b g ∧ SqT K H mt (bl.map nV) ∧ PairsAt K H na ns ∧ ns.Nodup ∧ (∀ p ∈ ns, p.1 < bl.length ∧ p.2 < bl.length) ∧ bl.length ≤ 30 ∧ ns.length ≤ 4000 ∧
  ∀ (t : Addr) (l : List Nat) (H' : Hp), BagAt H' b g → SameB b g H H' → H' t = some (.tup (l.map nV)) → l.Pairwise (· < ·) → (∀ c ∈ l, c < bl.length) → ClosedL ns l → Q (.ref t) H'
abbrev scClN : List Str := ["_law_bag_here", "_law_blocks", "_law_needs_here", "_law_below_here", "_law_made", "_law_change"]
theorem scCl : FnScope scClN ["_law_bag_here", "_law_blocks", "_law_needs_here"] (defScope s_closed) := ⟨rfl, rfl, rfl, by decide +kernel, rfl, by decide +kernel, by decide +kernel⟩
theorem ok_closed {f : Addr} {fd : FuncData} (F : Fun K "_law_closed" "_law_closed" s_closed f fd) (B : Blt mg) (hst : mg "set" = none) (hsr : mg "sorted" = none)
    (hP : Has P w K mg base CX0 1 "_law_pick" ["_law_bag_here", "_law_many"] spPick) (hB : Has P w K mg base CX0 1 "_law_below" ["_law_many", "_law_needs_here"] (spFarLots K)) :
    FnOk P w K mg base CX0 2 f fd ["_law_bag_here", "_law_blocks", "_law_needs_here"] (spClosed K) := by
  obtain ⟨fP, fdP, GP, kP, bP, gP⟩ := hP
  obtain ⟨fB, fdB, GB, kB, bB, gB⟩ := hB
  refine F.ok scCl (fun vs H Q E h => ?_) (fun cdv A outer s H vs Q E hr h => ?_)
  · obtain ⟨b, g, mt, na, bl, ns, rfl, _⟩ := h
    rfl
  · obtain ⟨b, g, mt, na, bl, ns, rfl, BA, hm, PA, hnd, hb, hn, hl, q⟩ := h
    refine ⟨_,
      (pss_cons (ps_set (i := 3) scCl.nd rfl (.inl rfl) (pe_call GB hr (by rfl) gB kB bB .nil pass0 (pa_cons (pe_callB call_len_seq (by rfl) B.len PySem.boot_len (pa_cons (pv 1) pa_nil)) (pa_cons (pv 2) pa_nil))))
      (pss_cons (ps_set (i := 4) scCl.nd rfl (.inl rfl) (pe_lst pa_nil))
      (pss_cons (ps_for PassesOwn.never rfl (pi_range1 rfl B.range (pa_cons (pe_callB call_len_seq (by rfl) B.len PySem.boot_len (pa_cons (pv 1) pa_nil)) pa_nil)) (pg_name (i := 5) scCl.nd rfl (.inl rfl))
        (pss_one (ps_if (pt_cmpR op_eq (pe_call GP hr (by rfl) gP kP bP .nil pass0 (pa_cons (pv 0) (pa_cons pe_int pa_nil))) pe_int (nomark _))
          (pss_one (ps_expr (pe_bm PySem.F.plainAttrs_list PySem.F.slot_list_extend PySem.F.type_list_extend mt_extT (pv 4) (pa_cons (pe_op op_catA (pe_tup (pa_cons (pv 5) pa_nil)) (pe_ix ix_list (pv 3) (pv 5) (fun _ _ => rfl))) pa_nil)))) pss_nil)))
      (pss_one (ps_ret (pe_tupleOf (by rfl) B.tuple (pe_callB (cr_sortedSet rfl) (by rfl) hsr boot_sortedI (pa_cons (pe_callTy (cr_setI rfl) (by rfl) hst boot_setI (pa_cons (pv 4) pa_nil)) pa_nil)))))))), ?_⟩
    refine ⟨_, rfl, mt, _, rfl, .inr hm, _, rfl, bl.length, na, ns, by rw [List.length_map]; rfl, PA, hnd, hb, by omega, hl, fun D H1 s1 nD fl => ?_⟩
    have BA1 := BA.same s1
    have nb1 := BA.nb nD
    have hm1 := same_seqT s1 hm
    dsimp only [gName]
    refine st_eq (σ' := [some (.ref b), some (.ref mt), some (.ref na), some (.ref D), none, none]) rfl ?_
    refine ⟨Nat.zero_le _, fun M nM => ?_⟩
    have nM0 : H M = none := s1.free nM
    have nbM := BA1.nb nM
    have nDM : D ≠ M := by
      obtain ⟨rs, Ms, h1, _⟩ := fl
      exact ne_of_none h1 nM
    have s2 := s1.trans (same_upd (o := .lst []) nM)
    have fl2 := fl.same (same_upd (o := .lst []) nM)
    have eM : upd H1 M (.lst []) M = some (.lst (([] : List Nat).map nV)) := upd_same
    generalize upd H1 M (.lst []) = H2 at s2 fl2 eM ⊢
    dsimp only [gName]
    refine st_eq (σ' := [some (.ref b), some (.ref mt), some (.ref na), some (.ref D), some (.ref M), none]) rfl ?_
    refine ⟨_, rfl, mt, _, rfl, .inr (same_seqT s2 hm), _, rfl, by rw [List.length_map]; omega, by rw [List.length_map]; omega, ?_⟩
    rw [List.length_map, show ((bl.length : Int)).toNat = bl.length from Int.toNat_natCast _]
    refine for_range (n := bl.length) (fun i σ H3 => ∃ (made : List Nat) (y5 : Option V), σ = [some (.ref b), some (.ref mt), some (.ref na), some (.ref D), some (.ref M), y5] ∧ BagAt H3 b g ∧ SameB b g H H3 ∧ H3 M = some (.lst (made.map nV)) ∧ FarLots K H3 D bl.length ns ∧ (∀ c ∈ made, c < bl.length) ∧ ClosedL ns made ∧ made.length ≤ i * 31)
      ⟨[], none, rfl, BA.same s2, SameB.of s2, eM, fl2, (fun c h => nomatch h), (fun c h => nomatch h), Nat.zero_le _⟩ ?_ ?_
    · rintro i σ H3 hi ⟨made, y5, rfl, BA3, sb3, e3, fl3, lt3, cl3, len3⟩
      refine ⟨_, rfl, b, g, 3, rfl, BA3, by decide, by decide, fun r H4 r0 r1 BA4 sb4 => ⟨rfl, _, rfl, ite_ok (fun hz => ?_) fun hz => ?_⟩⟩
      · have e4 := sb4 M _ e3 nbM.1 nbM.2
        have fl4 := fl3.kp BA3 nb1.1 nb1.2 (Kp.sameB sb4)
        have sb34 := sb3.trans sb4
        refine ⟨_, rfl, .inl ⟨rfl, _, .inl (.inl e4)⟩, _, rfl, by show 1 ≤ sizeLine; rw [sizeLine_eq]; decide, fun t1 n1 => ?_⟩
        have s5 : Same H4 (upd H4 t1 (.tup [.int (0 + (i : Int))])) := same_upd n1
        have e5 : upd H4 t1 (.tup [.int (0 + (i : Int))]) t1 = some (.tup [.int (0 + (i : Int))]) := upd_same
        generalize upd H4 t1 (.tup [.int (0 + (i : Int))]) = H5 at s5 e5 ⊢
        obtain ⟨rs, Ms, h1, h2, h3, h4⟩ := id (fl4.same s5)
        have er : rs[i]? = some rs[i] := List.getElem?_eq_getElem (by omega)
        have em : Ms[i]? = some Ms[i] := List.getElem?_eq_getElem (by omega)
        obtain ⟨hr1, hr2, hr3⟩ := h4 i _ _ er em
        generalize rs[i] = r at er hr1
        generalize Ms[i] = l at em hr1 hr2 hr3
        have ll : l.length ≤ 30 := by
          have := nodup_below (n := bl.length) (D := l) (hr2.imp fun h => by omega) fun o ho => Far.ends hb ((hr3 o).mp ho)
          omega
        refine ⟨_, rfl, _, rfl, D, _, _, .ref r, rfl, rfl, .inl (.inl h1), at_of (j := i) (Int.zero_add _) (by rw [List.getElem?_map, er]; rfl), ?_⟩
        refine catA_of (.inl (.inl e5)) hr1 (by rw [List.length_map, sizeLine_eq]; show 1 + l.length ≤ _; omega) fun t2 H6 s6 e6 => ?_
        have e46 := s6 _ _ (s5 _ _ e4)
        have sb6 := sb34.trans (SameB.of (s5.trans s6))
        have BA6 := (BA4.same s5).same s6
        have fl6 := (fl4.same s5).same s6
        have eq : [V.int (0 + (i : Int))] ++ l.map nV = (i :: l).map nV := by
          rw [Int.zero_add]
          rfl
        rw [eq] at e6
        refine ⟨M, t2, _, _, rfl, rfl, e46, e6, by rw [List.length_map, List.length_map, List.length_cons, sizeLine_eq]; omega, ?_⟩
        refine ⟨made ++ (i :: l), _, rfl, BA6.put nbM.1 nbM.2, sb6.put nM0, ?_, fl6.put e46 nDM, fun c hc => ?_, fun c hc o ho => ?_, ?_⟩
        · rw [upd_same, List.map_append]
        · rcases List.mem_append.mp hc with hc | hc
          · exact lt3 c hc
          · rcases List.mem_cons.mp hc with hc | hc
            · subst hc; exact hi
            · exact Far.ends hb ((hr3 c).mp hc)
        · rcases List.mem_append.mp hc with hc | hc
          · exact List.mem_append.mpr (.inl (cl3 c hc o ho))
          · refine List.mem_append.mpr (.inr (List.mem_cons_of_mem _ ((hr3 o).mpr ?_)))
            rcases List.mem_cons.mp hc with hc | hc
            · subst hc; exact ho
            · exact ((hr3 c).mp hc).trans ho
        · rw [List.length_append, List.length_cons, Nat.succ_mul]
          omega
      · exact ⟨made, _, rfl, BA4, sb3.trans sb4, sb4 M _ e3 nbM.1 nbM.2, fl3.kp BA3 nb1.1 nb1.2 (Kp.sameB sb4), lt3, cl3, by omega⟩
    · rintro σ H3 ⟨made, y5, rfl, BA3, sb3, e3, fl3, lt3, cl3, len3⟩
      refine ⟨_, rfl, M, made.map (fun x : Nat => (x : Int)), rfl, .inl (.inl (.inl (by rw [← map_nV]; exact e3))), by rw [List.length_map]; have := Nat.mul_le_mul_right 31 hn; omega, fun S ms ndm mem nS => ?_⟩
      refine ⟨S, _, ms.length, rfl, upd_same, by have := ms_few ndm mem lt3; omega, fun ls L asc memL lenL nL => ?_⟩
      obtain ⟨ks, rfl, ascK, memK⟩ := ls_nats asc memL
      rw [← map_nV]
      refine .inl ⟨L, _, rfl, .inl (.inl upd_same), fun t2 n2 => ?_⟩
      have s6 := ((same_upd nS).trans (same_upd (o := .lst (ks.map nV)) nL)).trans (same_upd (o := .tup (ks.map nV)) n2)
      exact q t2 ks _ (BA3.same s6) (sb3.trans (SameB.of s6)) upd_same ascK (fun c hc => lt3 c ((memK c).mp hc)) fun c hc o ho => (memK o).mpr (cl3 c ((memK c).mp hc) o ho)
end
end Rip

/-! The law's is_standing, row_word, is. -/
namespace Rip
open PySem PySem.Spec PyProof.Rows L2 RipS
/-- whether what is needed by these is among them -/
def shutB (ns : List (Nat × Nat)) (l : List Nat) : Bool := ((ns.filter fun p => decide (p.1 ∈ l)).map fun p => decide (p.2 ∈ l)).all id
theorem shutB_iff {ns : List (Nat × Nat)} {l : List Nat} : shutB ns l = true ↔ ∀ p ∈ ns, p.1 ∈ l → p.2 ∈ l := by
  unfold shutB
  rw [List.all_map, List.all_eq_true]
  constructor
  · exact fun h p hp h1 => of_decide_eq_true (h p (List.mem_filter.mpr ⟨hp, decide_eq_true h1⟩))
  · exact fun h p hp => decide_eq_true (h p (List.mem_filter.mp hp).1 (of_decide_eq_true (List.mem_filter.mp hp).2))
theorem closedB_iff {n : Nat} {ns : List (Nat × Nat)} {f l : List Nat} (F : FarsOf n ns f) (hl : ∀ c ∈ l, c < n) : closedB f l = true ↔ ∀ c ∈ l, ∀ o, Far ns c o → o ∈ l := by
  unfold closedB
  rw [List.all_eq_true]
  have key : ∀ c ∈ l, (lessM (f.getD c 0) (maskOf l) = 0 ↔ ∀ o, Far ns c o → o ∈ l) := fun c hc => by
    have hf : c < f.length := by rw [F.len]; exact hl c hc
    have e : f[c]? = some f[c] := List.getElem?_eq_getElem hf
    rw [getD_some e, lessM_zero]
    constructor
    · intro h o fo
      have z := h o ((F.bits c _ e o).mpr fo)
      rw [bit_maskOf] at z
      exact of_decide_eq_true z
    · intro h o ho
      rw [bit_maskOf]
      exact decide_eq_true (h o ((F.bits c _ e o).mp ho))
  exact ⟨fun h c hc => (key c hc).mp (of_decide_eq_true (h c hc)), fun h c hc => decide_eq_true ((key c hc).mpr (h c hc))⟩
theorem closed_shut {n : Nat} {ns : List (Nat × Nat)} {f l : List Nat} (F : FarsOf n ns f) (hl : ∀ c ∈ l, c < n) : closedB f l = shutB ns l := by
  rw [Bool.eq_iff_iff, closedB_iff F hl, shutB_iff]
  constructor
  · exact fun h p hp h1 => h p.1 h1 p.2 (.one hp)
  · intro h c hc o f
    induction f with
    | one e => exact h _ e hc
    | step e _ ih => exact ih (h _ e hc)
section
variable {P : Program} {w : World} {K : PySem.W.Frag} {mg : Str → Option Value} {base : Heap}
abbrev s_lawst : Stmt := top 44
def spLawSt (K : PySem.W.Frag) : Sp := fun vs H Q _ => ∃ (mt na : Addr) (v : V) (bl : List Nat) (ns : List (Nat × Nat)) (tp : Bool), vs = [.ref mt, .ref na, v] ∧ SqT K H mt (bl.map nV) ∧ PairsAt K H na ns ∧ ns.length ≤ 4000 ∧ ObT K H v tp ∧ (tp = false → Q (.bl false) H) ∧
  (tp = true → ∃ (t : Addr) (xs : List V), v = .ref t ∧ SqT K H t xs ∧ xs.length ≤ 900000 ∧ (∀ x ∈ xs, ∀ H', Same H H' → Ob K H' x) ∧ (lotGo bl.length (-1) xs = false → ∀ H', Same H H' → Q (.bl false) H') ∧
    ∀ l : List Nat, xs = l.map nV → l.Pairwise (· < ·) → (∀ c ∈ l, c < bl.length) → ∀ H', Same H H' → Q (.bl (shutB ns l)) H')
abbrev scLsN : List Str := ["_law_blocks", "_law_needs_here", "_law_thing", "_law_one", "_law_other"]
theorem scLs : FnScope scLsN ["_law_blocks", "_law_needs_here", "_law_thing"] (defScope s_lawst) := ⟨rfl, rfl, rfl, by decide +kernel, rfl, by decide +kernel, by decide +kernel⟩
theorem ok_lawst {f : Addr} {fd : FuncData} (F : Fun K "_law_is_standing" "_law_is_standing" s_lawst f fd) (B : Blt mg) (hL : Has P w K mg base CX0 2 "_law_is_lot" ["_law_thing", "_law_many"] (spLawLot K)) :
    FnOk P w K mg base CX0 3 f fd ["_law_blocks", "_law_needs_here", "_law_thing"] (spLawSt K) := by
  obtain ⟨fL, fdL, GL, kL, bL, gL⟩ := hL
  refine F.ok scLs (fun vs H Q E h => ?_) (fun cdv A outer s H vs Q E hr h => ?_)
  · obtain ⟨mt, na, v, bl, ns, tp, rfl, _⟩ := h
    rfl
  · obtain ⟨mt, na, v, bl, ns, tp, rfl, hm, PA, hl, ot, q0, q1⟩ := h
    obtain ⟨ps, hS, hpl, hps⟩ := id PA
    refine ⟨_,
      (pss_one (ps_ret (pe_and (pe_call GL hr (by rfl) gL kL bL .nil pass0 (pa_cons (pv 2) (pa_cons (pe_callB call_len_seq (by rfl) B.len PySem.boot_len (pa_cons (pv 0) pa_nil)) pa_nil)))
        (pe_one (pe_callB (cr_all rfl) (by rfl) B.all PyProof.Rows.boot_all (pa_cons (pe_lc (own := [("_law_one", 3), ("_law_other", 4)]) (g := gTwo K 3 4) (tt := tTest (tOp (rIn K false) (tVar 3) (tVar 2))) (te := tOp (rIn K false) (tVar 4) (tVar 2)) rfl scLs.nd (pi_tup (pv 1)) (blkOk_by (own := [("_law_one", 3), ("_law_other", 4)]) (N := scLsN) (sc := defScope s_lawst) (by decide +kernel))
          (fun _ _ _ _ _ => (pg_tup rfl (pgs_cons (pg_name (i := 3) scLs.nd rfl (.inl rfl)) (pgs_cons (pg_name (i := 4) scLs.nd rfl (.inl rfl)) pgs_nil)))) (fun _ _ _ _ _ => (pts_one (pt_cmpR op_in_seq (pv 3) (pv 2) (by with_unfolding_all rfl)))) (fun _ _ _ _ _ => (pe_cmpR op_in_seq (pv 4) (pv 2) (by with_unfolding_all rfl)))) pa_nil)))))), ?_⟩
    refine ⟨_, rfl, _, rfl, mt, _, rfl, .inr hm, bl.length, v, tp, by rw [List.length_map]; rfl, ot, fun e => ⟨_, rfl, iteF (q0 e)⟩, fun e => ?_⟩
    obtain ⟨t, xs, rfl, hT, hxl, ho, q2, q3⟩ := q1 e
    refine ⟨t, xs, rfl, hT, hxl, ho, fun H1 s1 => ⟨_, rfl, ?_⟩⟩
    cases e2 : lotGo bl.length (-1) xs with
    | false => exact iteF (q2 e2 H1 s1)
    | true =>
      obtain ⟨l, rfl, asc, hin0⟩ := lotGo_nat bl.length xs (-1) e2
      have hT1 := same_seqT s1 hT
      have fl : (l.map nV).all flatV = true := by rw [List.all_map]; exact List.all_eq_true.mpr fun _ _ => rfl
      refine iteT ⟨_, rfl, na, rfl, ⟨_, same_seqT s1 hS⟩, fun D nD => ?_⟩
      refine lc_tup (K := K) (a := na) (xs := ps.map V.ref) (fun i H2 => Same H1 H2 ∧ H2 D = some (.lst ((((ns.take i).filter fun p => decide (p.1 ∈ l)).map fun p => decide (p.2 ∈ l)).map V.bl)) ∧ (((ns.take i).filter fun p => decide (p.1 ∈ l)).map fun p => decide (p.2 ∈ l)).length ≤ i)
        ⟨same_upd nD, upd_same, Nat.zero_le _⟩ (fun i H2 _ z => same_seqT (s1.trans z.1) hS) ?_ ?_
      · rintro i x H2 ex ⟨s2, e3, l3⟩
        rw [List.getElem?_map] at ex
        cases ep : ps[i]? with
        | none => rw [ep] at ex; cases ex
        | some r =>
          rw [ep] at ex
          cases ex
          have hi := (List.getElem?_eq_some_iff.mp ep).1
          rw [hpl] at hi
          have en : ns[i]? = some ns[i] := List.getElem?_eq_getElem hi
          generalize ns[i] = z at en
          have s02 := s1.trans s2
          have hr := same_seqT s02 (hps i r z ep en)
          have hT2 := same_seqT s02 hT
          have su : (((ns.take (i + 1)).filter fun p => decide (p.1 ∈ l)).map fun p => decide (p.2 ∈ l)) = (((ns.take i).filter fun p => decide (p.1 ∈ l)).map fun p => decide (p.2 ∈ l)) ++ (if z.1 ∈ l then [decide (z.2 ∈ l)] else []) := by
            rw [take_one en, List.filter_append, List.map_append, List.filter_cons]
            by_cases y : z.1 ∈ l
            · rw [if_pos (decide_eq_true y), if_pos y]
              rfl
            · rw [if_neg (by simpa using y), if_neg y]
              rfl
          refine ⟨r, _, rfl, hr, rfl, _, _, rfl, _, [], rfl, rfl, ?_⟩
          refine ⟨rfl, _, rfl, _, rfl, t, _, rfl, .inr hT2, rfl, fl, _, rfl, ?_⟩
          show if inV (nV z.1) (l.map nV) = true then _ else _
          rw [inV_nat]
          refine ite_ok (fun hz => ?_) fun hz => ?_
          · rw [if_pos hz] at su
            refine ⟨_, rfl, _, rfl, t, _, rfl, .inr hT2, rfl, fl, _, e3, by rw [List.length_map, sizeLine_eq]; omega, same_put s2 nD, ?_, ?_⟩
            · rw [upd_same, su, List.map_append]
              show some (HO.lst (_ ++ [V.bl (inV (nV z.2) (l.map nV))])) = _
              rw [inV_nat]
              rfl
            · rw [su, List.length_append]
              exact Nat.succ_le_succ l3
          · rw [if_neg hz, List.append_nil] at su
            rw [su]
            exact ⟨s2, e3, by omega⟩
      · rintro H2 ⟨s2, e3, _⟩
        rw [List.length_map, hpl, List.take_length] at e3
        exact ⟨D, _, rfl, .inl (.inl e3), q3 l rfl asc (fun c hc => (hin0 c hc).1) H2 (s1.trans s2)⟩
/-! ### row_word -/
theorem inR_blk {bl : List Nat} (h60 : ∀ b ∈ bl, b < 60) (v : V) : isBlk bl v = (inR 0 1000000 v && isBlk bl v) := by
  cases e : isBlk bl v with
  | false => rw [Bool.and_false]
  | true =>
    obtain ⟨x, rfl, hx⟩ := isBlk_nat e
    have := h60 x hx
    have z : inR 0 1000000 (nV x) = true := by
      show (decide ((0 : Int) ≤ (x : Int)) && decide ((x : Int) ≤ 1000000)) = true
      rw [decide_eq_true (by omega), decide_eq_true (by omega)]
      rfl
    rw [z]
    rfl
theorem isblk_in {bl : List Nat} {v : V} (h : inR 0 1000000 v = true) : isBlk bl v = inV v (bl.map nV) := by
  obtain ⟨i, rfl, h1, _⟩ : ∃ i, v = .int i ∧ (0 : Int) ≤ i ∧ i ≤ 1000000 := by
    cases v with
    | int i =>
      have h : (decide ((0 : Int) ≤ i) && decide (i ≤ 1000000)) = true := h
      rw [Bool.and_eq_true, decide_eq_true_eq, decide_eq_true_eq] at h
      exact ⟨i, rfl, h.1, h.2⟩
    | _ => cases h
  unfold isBlk
  have : isNum (.int i) = true := decide_eq_true h1
  rw [this, Bool.true_and]
theorem isblk_out {bl : List Nat} {v : V} (h60 : ∀ b ∈ bl, b < 60) (h : inR 0 1000000 v = false) : isBlk bl v = false := by
  rw [inR_blk h60, h, Bool.false_and]
theorem inR_flat {v : V} (h : inR 0 1000000 v = true) : flatV v = true := by
  cases v with
  | int i => rfl
  | _ => cases h
end
end Rip

/-! The law's is: of the same things. -/
namespace Rip
open PySem PySem.Spec PyProof.Rows L2 RipS
section
variable {P : Program} {w : World} {K : PySem.W.Frag} {mg : Str → Option Value} {base : Heap}
abbrev s_is : Stmt := top 34
abbrev scEqN : List Str := ["_law_thing", "_law_due", "_law_one", "_law_other"]
theorem scEq : FnScope scEqN ["_law_thing", "_law_due"] (defScope s_is) := ⟨rfl, rfl, rfl, by decide +kernel, rfl, by decide +kernel, by decide +kernel⟩
/-- a text or a whole number -/
def leaf : V → Bool
  | .str _ => true | .int _ => true
  | _ => false
theorem leaf_ty {x : V} (h : leaf x = true) (H : Hp) : ∃ t, TyX K H x t ∧ PySem.W.kitAny K t [.type "tuple", .type "list"] = some false ∧ PySem.W.kitOne K t (.type "bool") = some false := by
  cases x with
  | str s => exact ⟨_, .base (.str s), kitAny_cons (kit_ty (show kitB "str" "tuple" = some false by decide +kernel)) (fun _ => kitAny_cons (kit_ty (show kitB "str" "list" = some false by decide +kernel)) (fun _ => kitAny_nil) (fun z => by cases z)) (fun z => by cases z), kit_ty (show kitB "str" "bool" = some false by decide +kernel)⟩
  | int i => exact ⟨_, .base (.int i), kitAny_cons (kit_ty (show kitB "int" "tuple" = some false by decide +kernel)) (fun _ => kitAny_cons (kit_ty (show kitB "int" "list" = some false by decide +kernel)) (fun _ => kitAny_nil) (fun z => by cases z)) (fun z => by cases z), kit_ty (show kitB "int" "bool" = some false by decide +kernel)⟩
  | _ => cases h
def spLeaf : Sp := fun vs H Q _ => ∃ x : V, vs = [x, x] ∧ leaf x = true ∧ ∀ H', Same H H' → Q (.bl true) H'
theorem two_line : 2 ≤ sizeLine := by rw [sizeLine_eq]; decide
theorem ok_leaf {f : Addr} {fd : FuncData} (F : Fun K "_law_is" "_law_is" s_is f fd) (B : Blt mg) : FnOk P w K mg base CX0 1 f fd ["_law_thing", "_law_due"] spLeaf := by
  refine F.ok scEq (fun vs H Q E h => ?_) (fun cdv A outer s H vs Q E hr h => ?_)
  · obtain ⟨x, rfl, _⟩ := h
    rfl
  · obtain ⟨x, rfl, hx, q⟩ := h
    refine ⟨_,
      (pss_cons (ps_if (pt_val (pe_callB call_isiT (by rfl) B.isinstance PyProof.Rows.boot_isinstance (pa_cons (pv 1) (pa_cons (pe_tup (pa_cons (pe_bltn (v := .ty "tuple") (by rfl) B.tuple PyProof.Rows.boot_tuple rfl) (pa_cons (pe_bltn (v := .ty "list") (by rfl) B.list PyProof.Rows.boot_list rfl) pa_nil))) pa_nil))))
        (pss_cons ps_no (pss_one ps_no)) pss_nil)
      (pss_one (ps_ret (pe_and (pe_cmpR op_eq (pe_callB call_isi (by rfl) B.isinstance PyProof.Rows.boot_isinstance (pa_cons (pv 0) (pa_cons (pe_bltn (v := .ty "bool") (by rfl) B.bool PyProof.Rows.boot_bool rfl) pa_nil))) (pe_callB call_isi (by rfl) B.isinstance PyProof.Rows.boot_isinstance (pa_cons (pv 1) (pa_cons (pe_bltn (v := .ty "bool") (by rfl) B.bool PyProof.Rows.boot_bool rfl) pa_nil))) (nomark _))
        (pe_one (pe_cmpR op_eq (pv 0) (pv 1) (nomark _))))))), ?_⟩
    refine ⟨_, rfl, two_line, fun T nT => ?_⟩
    have s1 : Same H (upd H T (.tup [.ty "tuple", .ty "list"])) := same_upd nT
    have e1 : upd H T (.tup [.ty "tuple", .ty "list"]) T = some (.tup [.ty "tuple", .ty "list"]) := upd_same
    generalize upd H T (.tup [.ty "tuple", .ty "list"]) = H1 at s1 e1 ⊢
    obtain ⟨t, ty, k1, k2⟩ := leaf_ty (K := K) hx H1
    refine ⟨x, T, _, t, _, false, rfl, e1, .cons (.ty "tuple") (.cons (.ty "list") .nil), ty, k1, _, rfl, iteF ?_⟩
    refine ⟨_, rfl, x, _, t, _, false, rfl, .ty "bool", ty, k2, _, rfl, x, _, t, _, false, rfl, .ty "bool", ty, k2, rfl, _, rfl, iteT ⟨_, rfl, _, rfl, ?_⟩⟩
    have e2 : decide (x = x) = true := decide_eq_true rfl
    cases x with
    | str s => exact ⟨rfl, by rw [e2]; exact q H1 s1⟩
    | int i => exact ⟨rfl, by rw [e2]; exact q H1 s1⟩
    | _ => cases hx
/-- of two tuples of leaves -/
def spIsTwo (K : PySem.W.Frag) : Sp := fun vs H Q _ => ∃ (a b : Addr) (xs : List V), vs = [.ref a, .ref b] ∧ SqT K H a xs ∧ SqT K H b xs ∧ (∀ x ∈ xs, leaf x = true) ∧ xs.length ≤ 1000 ∧ ∀ H', Same H H' → Q (.bl true) H'
theorem kit_tt {K : PySem.W.Frag} : PySem.W.kitAny K (.type "tuple") [.type "tuple", .type "list"] = some true := kitAny_cons (kit_ty (show kitB "tuple" "tuple" = some true by decide +kernel)) (fun z => by cases z) (fun _ => rfl)
theorem ok_istwo {f : Addr} {fd : FuncData} (F : Fun K "_law_is" "_law_is" s_is f fd) (B : Blt mg) (hL : Has P w K mg base CX0 1 "_law_is" ["_law_thing", "_law_due"] spLeaf) : FnOk P w K mg base CX0 2 f fd ["_law_thing", "_law_due"] (spIsTwo K) := by
  obtain ⟨fL, fdL, GL, kL, bL, gL⟩ := hL
  refine F.ok scEq (fun vs H Q E h => ?_) (fun cdv A outer s H vs Q E hr h => ?_)
  · obtain ⟨a, b, xs, rfl, _⟩ := h
    rfl
  · obtain ⟨a, b, xs, rfl, ha, hb, hx, hl, q⟩ := h
    refine ⟨_,
      (pss_cons (ps_if (pt_val (pe_callB call_isiT (by rfl) B.isinstance PyProof.Rows.boot_isinstance (pa_cons (pv 1) (pa_cons (pe_tup (pa_cons (pe_bltn (v := .ty "tuple") (by rfl) B.tuple PyProof.Rows.boot_tuple rfl) (pa_cons (pe_bltn (v := .ty "list") (by rfl) B.list PyProof.Rows.boot_list rfl) pa_nil))) pa_nil))))
        (pss_cons (ps_if (pw_or (pt_cmpR op_ne (pe_callB call_isi (by rfl) B.isinstance PyProof.Rows.boot_isinstance (pa_cons (pv 0) (pa_cons (pe_bltn (v := .ty "tuple") (by rfl) B.tuple PyProof.Rows.boot_tuple rfl) pa_nil))) (pe_callB call_isi (by rfl) B.isinstance PyProof.Rows.boot_isinstance (pa_cons (pv 1) (pa_cons (pe_bltn (v := .ty "tuple") (by rfl) B.tuple PyProof.Rows.boot_tuple rfl) pa_nil))) (nomark _))
            (pw_or1 (pt_cmpR op_ne (pe_callB call_isi (by rfl) B.isinstance PyProof.Rows.boot_isinstance (pa_cons (pv 0) (pa_cons (pe_bltn (v := .ty "list") (by rfl) B.list PyProof.Rows.boot_list rfl) pa_nil))) (pe_callB call_isi (by rfl) B.isinstance PyProof.Rows.boot_isinstance (pa_cons (pv 1) (pa_cons (pe_bltn (v := .ty "list") (by rfl) B.list PyProof.Rows.boot_list rfl) pa_nil))) (nomark _)))).pt
          (pss_one ps_no) pss_nil)
        (pss_one (ps_ret (pe_and (pe_cmpR op_eq (pe_callB call_len_seq (by rfl) B.len PySem.boot_len (pa_cons (pv 0) pa_nil)) (pe_callB call_len_seq (by rfl) B.len PySem.boot_len (pa_cons (pv 1) pa_nil)) (nomark _))
          (pe_one (pe_callB (cr_all rfl) (by rfl) B.all PyProof.Rows.boot_all (pa_cons (pe_lc (own := [("_law_one", 2), ("_law_other", 3)]) (g := gTwo K 2 3) (tt := tYes) (te := tCall spLeaf [] E0 (tCons (tVar 2) (tCons (tVar 3) tNil))) rfl scEq.nd (RZ.pi_zipA (by rfl) B.zip (pa_cons (pv 0) (pa_cons (pv 1) pa_nil))) (blkOk_by (own := [("_law_one", 2), ("_law_other", 3)]) (N := scEqN) (sc := defScope s_is) (by decide +kernel))
            (fun _ _ _ _ _ => (pg_tup rfl (pgs_cons (pg_name (i := 2) scEq.nd rfl (.inl rfl)) (pgs_cons (pg_name (i := 3) scEq.nd rfl (.inl rfl)) pgs_nil)))) (fun _ _ _ _ _ => pts_nil) (fun _ _ _ _ _ => (pe_call GL hr (by rfl) gL kL bL .nil pass0 (pa_cons (pv 2) (pa_cons (pv 3) pa_nil))))) pa_nil))))))) pss_nil)
      (pss_one ps_no)), ?_⟩
    refine ⟨_, rfl, two_line, fun T nT => ?_⟩
    have s1 : Same H (upd H T (.tup [.ty "tuple", .ty "list"])) := same_upd nT
    have e1 : upd H T (.tup [.ty "tuple", .ty "list"]) T = some (.tup [.ty "tuple", .ty "list"]) := upd_same
    generalize upd H T (.tup [.ty "tuple", .ty "list"]) = H1 at s1 e1 ⊢
    have ha1 := same_seqT s1 ha
    have hb1 := same_seqT s1 hb
    have ktt : PySem.W.kitOne K (.type "tuple") (.type "tuple") = some true := kit_ty (by decide +kernel)
    have ktl : PySem.W.kitOne K (.type "tuple") (.type "list") = some false := kit_ty (by decide +kernel)
    refine ⟨_, T, _, _, _, true, rfl, e1, .cons (.ty "tuple") (.cons (.ty "list") .nil), tyx_tup hb1, kit_tt, _, rfl, iteT ?_⟩
    refine ⟨_, rfl, _, _, _, _, true, rfl, .ty "tuple", tyx_tup ha1, ktt, _, rfl, _, _, _, _, true, rfl, .ty "tuple", tyx_tup hb1, ktt, rfl, _, rfl, iteNS rfl ?_⟩
    refine ⟨_, rfl, _, _, _, _, false, rfl, .ty "list", tyx_tup ha1, ktl, _, rfl, _, _, _, _, false, rfl, .ty "list", tyx_tup hb1, ktl, rfl, _, rfl, iteNS rfl ?_⟩
    refine ⟨_, rfl, a, _, rfl, .inr ha1, _, rfl, b, _, rfl, .inr hb1, rfl, _, rfl, ?_⟩
    rw [decide_eq_true rfl]
    refine iteT ⟨_, rfl, _, rfl, a, b, _, _, rfl, .inr ⟨ha1, hb1, fun D nD => ?_⟩⟩
    have ln : xs.length = min xs.length xs.length := (Nat.min_self _).symm
    refine lc_it (walk_zipT (K := K) (a := a) (b := b) ln) (fun i H4 => Same H1 H4 ∧ H4 D = some (.lst ((List.replicate i true).map V.bl))) ⟨same_upd nD, upd_same⟩ (fun i H4 _ z => ⟨same_seqT z.1 ha1, same_seqT z.1 hb1⟩) ?_ ?_
    · rintro i x H4 H5 hi ⟨s4, e4⟩ ⟨T2, v1, v2, rfl, nT2, rfl, x1, x2⟩
      have i1 : xs[i]? = some xs[i] := List.getElem?_eq_getElem (by omega)
      have x1 : xs[i]? = some v1 := x1
      have x2 : xs[i]? = some v2 := x2
      have ev : v1 = v2 := Option.some.inj (x1.symm.trans x2)
      subst ev
      have nDT : D ≠ T2 := ne_of_none e4 nT2
      have s5 : Same H1 (upd H4 T2 (.tup [v1, v1])) := s4.trans (same_upd nT2)
      have e5 : upd H4 T2 (.tup [v1, v1]) D = some (.lst ((List.replicate i true).map V.bl)) := by rw [upd_ne nDT]; exact e4
      refine ⟨T2, _, rfl, .inl (.inl upd_same), rfl, _, _, rfl, _, [], rfl, rfl, ?_⟩
      generalize upd H4 T2 (.tup [v1, v1]) = H6 at s5 e5 ⊢
      refine ⟨rfl, _, rfl, _, rfl, v1, rfl, hx v1 (at_mem x1), fun H7 s7 => ⟨_, s7 _ _ e5, by rw [List.length_map, List.length_replicate, sizeLine_eq]; omega, same_put (s5.trans s7) nD, ?_⟩⟩
      rw [upd_same, List.replicate_succ', List.map_append]
      rfl
    · rintro H4 ⟨s4, e4⟩
      refine ⟨D, List.replicate xs.length true, rfl, .inl (.inl e4), ?_⟩
      have e6 : (List.replicate xs.length true).all id = true := List.all_eq_true.mpr fun x hx => (List.mem_replicate.mp hx).2
      rw [e6]
      exact q H4 (s1.trans s4)
end
end Rip

/-! The law's own brought: struck again and again. -/
namespace Rip
open PySem PySem.Spec PyProof.Rows L2 RipS
/-- what a write brings, as it is said: all of the block that lacks nothing, however far -/
def LBr (bl : List Nat) (ns : List (Nat × Nat)) (l : List Nat) (b : Nat) (r : List Nat) : Prop := r.Pairwise (· < ·) ∧ ∀ c, c ∈ r ↔ (bl[c]? = some b ∧ c ∉ l ∧ ∀ o, Far ns c o → o ∈ l ∨ bl[o]? = some b)
theorem LBr.uniq {bl : List Nat} {ns : List (Nat × Nat)} {l : List Nat} {b : Nat} {r s : List Nat} (x : LBr bl ns l b r) (y : LBr bl ns l b s) : r = s := asc_same x.1 y.1 fun j => (x.2 j).trans (y.2 j).symm
/-- a lot on the way: some of the block that is not there, with all that come -/
structure OnWay (bl : List Nat) (ns : List (Nat × Nat)) (l : List Nat) (b : Nat) (r : List Nat) : Prop where
  asc : r.Pairwise (· < ·)
  sub : ∀ c ∈ r, bl[c]? = some b ∧ c ∉ l
  all : ∀ c, bl[c]? = some b → c ∉ l → (∀ o, Far ns c o → o ∈ l ∨ bl[o]? = some b) → c ∈ r
def badN (ns : List (Nat × Nat)) (l r : List Nat) : List Nat := (ns.filter fun p => decide (p.1 ∈ r) && (decide (p.2 ∉ r) && decide (p.2 ∉ l))).map Prod.fst
theorem mem_bad {ns : List (Nat × Nat)} {l r : List Nat} {c : Nat} : c ∈ badN ns l r ↔ ∃ o, (c, o) ∈ ns ∧ c ∈ r ∧ o ∉ r ∧ o ∉ l := by
  unfold badN
  rw [List.mem_map]
  constructor
  · rintro ⟨⟨c1, o⟩, h, rfl⟩
    obtain ⟨h1, h2⟩ := List.mem_filter.mp h
    simp only [Bool.and_eq_true, decide_eq_true_eq] at h2
    exact ⟨o, h1, h2.1, h2.2.1, h2.2.2⟩
  · rintro ⟨o, h1, h2, h3, h4⟩
    exact ⟨(c, o), List.mem_filter.mpr ⟨h1, by simp [h2, h3, h4]⟩, rfl⟩
theorem OnWay.strike {bl : List Nat} {ns : List (Nat × Nat)} {l : List Nat} {b : Nat} {r : List Nat} (w : OnWay bl ns l b r) : OnWay bl ns l b (r.filter fun c => decide (c ∉ badN ns l r)) := by
  refine ⟨w.asc.filter _, fun c hc => w.sub c (List.mem_filter.mp hc).1, fun c h1 h2 h3 => List.mem_filter.mpr ⟨w.all c h1 h2 h3, decide_eq_true fun hb => ?_⟩⟩
  obtain ⟨o, h4, _, h6, h7⟩ := mem_bad.mp hb
  rcases h3 o (.one h4) with h | h
  · exact h7 h
  · exact h6 (w.all o h h7 fun x hx => h3 x (.step h4 hx))
theorem OnWay.less {ns : List (Nat × Nat)} {l r : List Nat} (h : badN ns l r ≠ []) : (r.filter fun c => decide (c ∉ badN ns l r)).length < r.length := by
  obtain ⟨c, hc⟩ := List.exists_mem_of_ne_nil _ h
  obtain ⟨o, _, h2, _⟩ := mem_bad.mp hc
  rw [← List.countP_eq_length_filter]
  refine Nat.lt_of_le_of_ne (List.countP_le_length) fun e => ?_
  have := List.countP_eq_length.mp e c h2
  exact of_decide_eq_true this hc
theorem OnWay.done {bl : List Nat} {ns : List (Nat × Nat)} {l : List Nat} {b : Nat} {r : List Nat} (w : OnWay bl ns l b r) (cl : ClosedL ns l) (h : badN ns l r = []) : LBr bl ns l b r := by
  have key : ∀ c o, Far ns c o → c ∈ r → o ∈ r ∨ o ∈ l := by
    intro c o f
    have one : ∀ {c o}, (c, o) ∈ ns → c ∈ r → o ∈ r ∨ o ∈ l := fun {c o} e hc => by
      by_cases h1 : o ∈ r
      · exact .inl h1
      by_cases h2 : o ∈ l
      · exact .inr h2
      have : c ∈ badN ns l r := mem_bad.mpr ⟨o, e, hc, h1, h2⟩
      rw [h] at this
      cases this
    induction f with
    | one e => exact one e
    | step e f ih =>
      intro hc
      rcases one e hc with h1 | h1
      · exact ih h1
      · exact .inr (cl _ h1 _ f)
  refine ⟨w.asc, fun c => ⟨fun hc => ⟨(w.sub c hc).1, (w.sub c hc).2, fun o f => ?_⟩, fun ⟨h1, h2, h3⟩ => w.all c h1 h2 h3⟩⟩
  rcases key c o f hc with h | h
  · exact .inr (w.sub o h).1
  · exact .inl h
theorem blk_iff {bl : List Nat} {b c : Nat} : (blkM bl b bl.length).testBit c = true ↔ bl[c]? = some b := by
  rw [blkM_bit, decide_eq_true_eq]
  constructor
  · rintro ⟨h1, h2⟩
    have e : bl[c]? = some bl[c] := List.getElem?_eq_getElem h1
    rw [getD_some e] at h2
    rw [e, h2]
  · intro e
    exact ⟨(List.getElem?_eq_some_iff.mp e).1, getD_some e⟩
theorem OnWay.len {bl : List Nat} {ns : List (Nat × Nat)} {l : List Nat} {b : Nat} {r : List Nat} (w : OnWay bl ns l b r) : r.length ≤ bl.length :=
  nodup_below (w.asc.imp fun h => by omega) fun c hc => (List.getElem?_eq_some_iff.mp (w.sub c hc).1).1
theorem OnWay.start (bl : List Nat) (ns : List (Nat × Nat)) (l : List Nat) (b : Nat) : OnWay bl ns l b ((List.range bl.length).filter fun c => decide (bl[c]? = some b ∧ c ∉ l)) :=
  ⟨List.pairwise_lt_range.filter _, fun c hc => of_decide_eq_true (List.mem_filter.mp hc).2, fun c h1 h2 _ => List.mem_filter.mpr ⟨List.mem_range.mpr (List.getElem?_eq_some_iff.mp h1).1, decide_eq_true ⟨h1, h2⟩⟩⟩
/-- just what the program brings -/
theorem LBr.lots {bl : List Nat} {ns : List (Nat × Nat)} {f l : List Nat} {b : Nat} (F : FarsOf bl.length ns f) : LBr bl ns l b (lotOf (brOf f (blkM bl b bl.length) (maskOf l))) := by
  refine ⟨asc_lotOf _, fun c => ?_⟩
  rw [mem_lotOf, brOf_bit, blk_iff, bit_maskOf]
  constructor
  · rintro ⟨h1, h2, h3⟩
    have hc : c < f.length := by
      rw [F.len]
      exact (List.getElem?_eq_some_iff.mp h1).1
    have e : f[c]? = some f[c] := List.getElem?_eq_getElem hc
    rw [getD_some e, lessM_zero] at h3
    refine ⟨h1, of_decide_eq_false h2, fun o fo => ?_⟩
    have z := h3 o ((F.bits c _ e o).mpr fo)
    rw [Nat.testBit_or, bit_maskOf, Bool.or_eq_true, decide_eq_true_eq, blk_iff] at z
    exact z
  · rintro ⟨h1, h2, h3⟩
    have hc : c < f.length := by
      rw [F.len]
      exact (List.getElem?_eq_some_iff.mp h1).1
    have e : f[c]? = some f[c] := List.getElem?_eq_getElem hc
    refine ⟨h1, decide_eq_false h2, ?_⟩
    rw [getD_some e, lessM_zero]
    intro o ho
    rw [Nat.testBit_or, bit_maskOf, Bool.or_eq_true, decide_eq_true_eq, blk_iff]
    exact h3 o ((F.bits c _ e o).mp ho)
section
variable {P : Program} {w : World} {K : PySem.W.Frag} {mg : Str → Option Value} {base : Heap}
abbrev s_lbr : Stmt := top 40
def spLbr (K : PySem.W.Frag) : Sp := fun vs H Q _ => ∃ (mt na t : Addr) (bl : List Nat) (ns : List (Nat × Nat)) (l : List Nat) (b : Nat), vs = [.ref mt, .ref na, .ref t, nV b] ∧ SqT K H mt (bl.map nV) ∧ PairsAt K H na ns ∧ SqT K H t (l.map nV) ∧ bl.length ≤ 1000 ∧ ns.length ≤ 4000 ∧ ClosedL ns l ∧
  ∀ (r : List Nat) (t2 : Addr) (H' : Hp), Same H H' → H t2 = none → H' t2 = some (.tup (r.map nV)) → LBr bl ns l b r → Q (.ref t2) H'
abbrev scPbN : List Str := ["_law_blocks", "_law_needs_here", "_law_there", "_law_block", "_law_lot", "_law_change", "_law_again", "_law_bad", "_law_one", "_law_other"]
theorem scPb : FnScope scPbN ["_law_blocks", "_law_needs_here", "_law_there", "_law_block"] (defScope s_lbr) := ⟨rfl, rfl, rfl, by decide +kernel, rfl, by decide +kernel, by decide +kernel⟩
theorem flatN (l : List Nat) : (l.map nV).all flatV = true := by rw [List.all_map]; exact List.all_eq_true.mpr fun _ _ => rfl
theorem not_in (x : Nat) (l : List Nat) : (!inV (nV x) (l.map nV)) = decide (x ∉ l) := by
  rw [inV_nat]
  by_cases z : x ∈ l
  · rw [decide_eq_true z, decide_eq_false (fun y => y z)]; rfl
  · rw [decide_eq_false z, decide_eq_true z]; rfl
theorem ok_lbr {f : Addr} {fd : FuncData} (F : Fun K "_law_brought" "_law_brought" s_lbr f fd) (B : Blt mg) : FnOk P w K mg base CX0 1 f fd ["_law_blocks", "_law_needs_here", "_law_there", "_law_block"] (spLbr K) := by
  refine F.ok scPb (fun vs H Q E h => ?_) (fun cdv A outer s H vs Q E hr h => ?_)
  · obtain ⟨mt, na, t, bl, ns, l, b, rfl, _⟩ := h
    rfl
  · obtain ⟨mt, na, t, bl, ns, l, b, rfl, hm, PA, ht, hn, hl, cl, q⟩ := h
    refine ⟨_,
      (pss_cons (ps_set (i := 4) scPb.nd rfl (.inr rfl) (pe_lc (own := [("_law_change", 5)]) (g := gName 5) (tt := tAnd (tTest (tOp rEq (tOp (rIxT K) (tVar 0) (tVar 5)) (tVar 3))) (tTest (tOp (rIn K true) (tVar 5) (tVar 2)))) (te := tVar 5) rfl scPb.nd (pi_range1 rfl B.range (pa_cons (pe_callB call_len_seq (by rfl) B.len PySem.boot_len (pa_cons (pv 0) pa_nil)) pa_nil)) (blkOk_by (own := [("_law_change", 5)]) (N := scPbN) (sc := defScope s_lbr) (by decide +kernel)) (fun _ _ _ _ _ => (pg_name (i := 5) scPb.nd rfl (.inl rfl)))
        (fun _ _ _ _ _ => (pts_one (PW.pt (pw_and (pt_cmpR op_eq (pe_ix ix_tup (pv 0) (pv 5) (fun _ _ => rfl)) (pv 3) (nomark _)) (pw_and1 (pt_cmpR op_notIn_seq (pv 5) (pv 2) (by with_unfolding_all rfl))))))) (fun _ _ _ _ _ => (pv 5))))
      (pss_cons (ps_set (i := 6) scPb.nd rfl (.inl rfl) pe_bl)
      (pss_cons (ps_while PassesOwn.never (pt_val (pv 6))
        (pss_cons (ps_set (i := 7) scPb.nd rfl (.inr rfl) (pe_lc (own := [("_law_one", 8), ("_law_other", 9)]) (g := gTwo K 8 9) (tt := tAnd (tTest (tOp (rIn K false) (tVar 8) (tVar 4))) (tAnd (tTest (tOp (rIn K true) (tVar 9) (tVar 4))) (tTest (tOp (rIn K true) (tVar 9) (tVar 2))))) (te := tVar 8) rfl scPb.nd (pi_tup (pv 1)) (blkOk_by (own := [("_law_one", 8), ("_law_other", 9)]) (N := scPbN) (sc := defScope s_lbr) (by decide +kernel))
          (fun _ _ _ _ _ => (pg_tup rfl (pgs_cons (pg_name (i := 8) scPb.nd rfl (.inl rfl)) (pgs_cons (pg_name (i := 9) scPb.nd rfl (.inl rfl)) pgs_nil))))
          (fun _ _ _ _ _ => (pts_one (PW.pt (pw_and (pt_cmpR op_in_seq (pv 8) (pv 4) (by with_unfolding_all rfl)) (pw_and (pt_cmpR op_notIn_seq (pv 9) (pv 4) (by with_unfolding_all rfl)) (pw_and1 (pt_cmpR op_notIn_seq (pv 9) (pv 2) (by with_unfolding_all rfl)))))))) (fun _ _ _ _ _ => (pv 8))))
        (pss_cons (ps_set (i := 6) scPb.nd rfl (.inl rfl) (pe_cmpR (op_neD hr.units) (pv 7) (pe_lst pa_nil) (nomark _)))
        (pss_one (ps_set (i := 4) scPb.nd rfl (.inr rfl) (pe_lc (own := [("_law_change", 5)]) (g := gName 5) (tt := tTest (tOp (rIn K true) (tVar 5) (tVar 7))) (te := tVar 5) rfl scPb.nd (pi_list (pv 4)) (blkOk_by (own := [("_law_change", 5)]) (N := scPbN) (sc := defScope s_lbr) (by decide +kernel)) (fun _ _ _ _ _ => (pg_name (i := 5) scPb.nd rfl (.inl rfl)))
          (fun _ _ _ _ _ => (pts_one (pt_cmpR op_notIn_seq (pv 5) (pv 7) (by with_unfolding_all rfl)))) (fun _ _ _ _ _ => (pv 5))))))))
      (pss_one (ps_ret (pe_tupleOf (by rfl) B.tuple (pv 4))))))), ?_⟩
    obtain ⟨ps, hS, hpl, hps⟩ := id PA
    refine ⟨_, rfl, mt, _, rfl, .inr hm, _, rfl, by rw [List.length_map]; omega, by rw [List.length_map]; omega, fun D nD => ?_⟩
    rw [List.length_map, show ((bl.length : Int)).toNat = bl.length from Int.toNat_natCast _]
    refine lc_range (n := bl.length) (fun i H2 => Same H H2 ∧ H2 D = some (.lst (((List.range i).filter fun c => decide (bl[c]? = some b ∧ c ∉ l)).map nV)) ∧ ((List.range i).filter fun c => decide (bl[c]? = some b ∧ c ∉ l)).length ≤ i)
      ⟨same_upd nD, upd_same, Nat.zero_le _⟩ ?_ ?_
    · rintro i H2 hi ⟨s2, e2, l2⟩
      have ei : bl[i]? = some bl[i] := List.getElem?_eq_getElem hi
      generalize bl[i] = x at ei
      have su : ((List.range (i + 1)).filter fun c => decide (bl[c]? = some b ∧ c ∉ l)) = ((List.range i).filter fun c => decide (bl[c]? = some b ∧ c ∉ l)) ++ (if decide (bl[i]? = some b ∧ i ∉ l) = true then [i] else []) := by
        rw [List.range_succ, List.filter_append, List.filter_cons]
        rfl
      refine ⟨rfl, _, rfl, _, rfl, mt, _, _, nV x, rfl, rfl, same_seqT s2 hm, at_of (j := i) (Int.zero_add _) (by rw [List.getElem?_map, ei]; rfl), _, rfl, rfl, _, rfl, ?_⟩
      by_cases ex : x = b
      · rw [decide_eq_true (show nV x = nV b by rw [ex])]
        refine iteT ⟨_, rfl, _, rfl, t, _, rfl, .inr (same_seqT s2 ht), rfl, flatN l, _, rfl, ?_⟩
        rw [Int.zero_add]
        show if (!inV (nV i) (l.map nV)) = true then _ else _
        rw [not_in]
        refine ite_ok (fun hz => ?_) fun hz => ?_
        · rw [if_pos (decide_eq_true ⟨by rw [ei, ex], hz⟩)] at su
          refine ⟨_, rfl, _, e2, by rw [List.length_map, sizeLine_eq]; omega, same_put s2 nD, ?_, ?_⟩
          · rw [upd_same, su, List.map_append]
            rfl
          · rw [su, List.length_append]
            exact Nat.succ_le_succ l2
        · rw [if_neg (by simp [hz]), List.append_nil] at su
          rw [su]
          exact ⟨s2, e2, by omega⟩
      · rw [decide_eq_false (show ¬ nV x = nV b from fun z => ex (by injection z with z; omega))]
        refine iteF (iteF ?_)
        rw [if_neg (by rw [ei]; simp [ex]), List.append_nil] at su
        rw [su]
        exact ⟨s2, e2, by omega⟩
    · rintro H2 ⟨s2, e2, _⟩
      have w0 := OnWay.start bl ns l b
      generalize ((List.range bl.length).filter fun c => decide (bl[c]? = some b ∧ c ∉ l)) = r0 at e2 w0
      dsimp only [gName]
      refine st_eq (σ' := [some (.ref mt), some (.ref na), some (.ref t), some (nV b), some (.ref D), none, none, none, none, none]) rfl ?_
      refine ⟨fun m σ H3 => ∃ (r : List Nat) (ag : Bool) (Dr : Addr) (x5 x7 x8 x9 : Option V), σ = [some (.ref mt), some (.ref na), some (.ref t), some (nV b), some (.ref Dr), x5, some (.bl ag), x7, x8, x9] ∧ Same H H3 ∧ H3 Dr = some (.lst (r.map nV)) ∧ OnWay bl ns l b r ∧ (ag = false → badN ns l r = []) ∧ m = (if ag = true then 1 + r.length else 0),
        ⟨_, r0, true, D, none, none, none, none, rfl, s2, e2, w0, (fun z => by cases z), rfl⟩, ?_⟩
      rintro m σ H3 ⟨r, ag, Dr, x5, x7, x8, x9, rfl, s3, e3, wr, sh, em⟩
      have lr := wr.len
      refine ⟨_, rfl, _, rfl, ?_⟩
      cases ag with
      | true =>
        refine iteT ⟨_, fun σ' H' z => z, ?_⟩
        rw [if_pos rfl] at em
        refine ⟨_, rfl, na, rfl, ⟨_, same_seqT s3 hS⟩, fun T nT => ?_⟩
        have nTD : Dr ≠ T := ne_of_none e3 nT
        refine lc_tup (K := K) (a := na) (xs := ps.map V.ref) (fun j H4 => Same H3 H4 ∧ H4 T = some (.lst ((badN (ns.take j) l r).map nV)) ∧ (badN (ns.take j) l r).length ≤ j)
          ⟨same_upd nT, upd_same, Nat.zero_le _⟩ (fun j H4 _ z => same_seqT (s3.trans z.1) hS) ?_ ?_
        · rintro j x H4 ex ⟨s4, e4, l4⟩
          rw [List.getElem?_map] at ex
          cases ep : ps[j]? with
          | none => rw [ep] at ex; cases ex
          | some a' =>
            rw [ep] at ex
            cases ex
            have hj := (List.getElem?_eq_some_iff.mp ep).1
            rw [hpl] at hj
            have en : ns[j]? = some ns[j] := List.getElem?_eq_getElem hj
            generalize ns[j] = z at en
            have s34 := s3.trans s4
            have hr := same_seqT s34 (hps j a' z ep en)
            have su : badN (ns.take (j + 1)) l r = badN (ns.take j) l r ++ (if (decide (z.1 ∈ r) && (decide (z.2 ∉ r) && decide (z.2 ∉ l))) = true then [z.1] else []) := by
              unfold badN
              rw [take_one en, List.filter_append, List.map_append, List.filter_cons]
              cases (decide (z.1 ∈ r) && (decide (z.2 ∉ r) && decide (z.2 ∉ l))) <;> rfl
            have no : (decide (z.1 ∈ r) && (decide (z.2 ∉ r) && decide (z.2 ∉ l))) = false → Same H3 H4 ∧ H4 T = some (.lst ((badN (ns.take (j + 1)) l r).map nV)) ∧ (badN (ns.take (j + 1)) l r).length ≤ j + 1 := fun e => by
              rw [e, if_neg (by simp), List.append_nil] at su
              rw [su]
              exact ⟨s4, e4, by omega⟩
            have e34 := s4 _ _ e3
            refine ⟨a', _, rfl, hr, rfl, _, _, rfl, _, [], rfl, rfl, ?_⟩
            refine ⟨rfl, _, rfl, _, rfl, Dr, _, rfl, .inl (.inl (.inl e34)), rfl, flatN r, _, rfl, ?_⟩
            show if inV (nV z.1) (r.map nV) = true then _ else _
            rw [inV_nat]
            refine ite_ok (fun h1 => ?_) fun h1 => iteF (no (by rw [decide_eq_false h1]; rfl))
            refine ⟨_, rfl, _, rfl, Dr, _, rfl, .inl (.inl (.inl e34)), rfl, flatN r, _, rfl, ?_⟩
            show if (!inV (nV z.2) (r.map nV)) = true then _ else _
            rw [not_in]
            refine ite_ok (fun h2 => ?_) fun h2 => iteF (no (by rw [decide_eq_false h2, Bool.false_and, Bool.and_false]))
            refine ⟨_, rfl, _, rfl, t, _, rfl, .inr (same_seqT s34 ht), rfl, flatN l, _, rfl, ?_⟩
            show if (!inV (nV z.2) (l.map nV)) = true then _ else _
            rw [not_in]
            refine ite_ok (fun h3 => ?_) fun h3 => no (by rw [decide_eq_false h3, Bool.and_false, Bool.and_false])
            rw [if_pos (by rw [decide_eq_true h1, decide_eq_true h2, decide_eq_true h3]; rfl)] at su
            refine ⟨_, rfl, _, e4, by rw [List.length_map, sizeLine_eq]; omega, same_put s4 nT, ?_, ?_⟩
            · rw [upd_same, su, List.map_append]
              rfl
            · rw [su, List.length_append]
              exact Nat.succ_le_succ l4
        · rintro H4 ⟨s4, e4, l4⟩
          rw [List.length_map, hpl, List.take_length] at e4 l4
          have e34 := s4 _ _ e3
          have s34 := s3.trans s4
          have hlb : (badN ns l r).length ≤ 4000 := by omega
          dsimp only [gName]
          refine st_eq (σ' := [some (.ref mt), some (.ref na), some (.ref t), some (nV b), some (.ref Dr), x5, some (.bl true), some (.ref T), x8, x9]) rfl ?_
          refine ⟨_, rfl, Nat.zero_le _, fun E nE => ?_⟩
          have s5 : Same H4 (upd H4 E (.lst [])) := same_upd nE
          have eE : upd H4 E (.lst []) E = some (.lst []) := upd_same
          generalize upd H4 E (.lst []) = H5 at s5 eE ⊢
          have e5 := s5 _ _ e4
          have e35 := s5 _ _ e34
          have s35 := s34.trans s5
          refine ⟨.list ((badN ns l r).map fun x : Nat => PyData.int (x : Int)), .list [], .lst (.inl (.inl e5)) (dpAll_nats _), .lst (.inl (.inl eE)) .nil, ints_shaped _, by decide, ?_⟩
          rw [eqv_nil]
          dsimp only [gName]
          refine st_eq (σ' := [some (.ref mt), some (.ref na), some (.ref t), some (nV b), some (.ref Dr), x5, some (.bl (!decide (badN ns l r = []))), some (.ref T), x8, x9]) rfl ?_
          try dsimp only
          refine ⟨_, rfl, Dr, rfl, ⟨_, .inl (.inl e35)⟩, fun U nU => ?_⟩
          refine lc_walk (walk_list (K := K) (a := Dr) (xs := r.map nV)) (fun k H6 => Same H5 H6 ∧ H6 U = some (.lst (((r.take k).filter fun c => decide (c ∉ badN ns l r)).map nV)) ∧ ((r.take k).filter fun c => decide (c ∉ badN ns l r)).length ≤ k)
            ⟨same_upd nU, upd_same, Nat.zero_le _⟩ (fun k H6 _ z => .inl (.inl (z.1 _ _ e35))) ?_ ?_
          · rintro k x H6 H7 hk ⟨s6, e6, l6⟩ ⟨rfl, ex⟩
            rw [List.length_map] at hk
            rw [List.getElem?_map] at ex
            have ek : r[k]? = some r[k] := List.getElem?_eq_getElem hk
            rw [ek] at ex
            cases ex
            generalize r[k] = x at ek
            have su : ((r.take (k + 1)).filter fun c => decide (c ∉ badN ns l r)) = ((r.take k).filter fun c => decide (c ∉ badN ns l r)) ++ (if decide (x ∉ badN ns l r) = true then [x] else []) := by
              rw [take_one ek, List.filter_append, List.filter_cons]
              rfl
            refine ⟨rfl, _, rfl, _, rfl, T, _, rfl, .inl (.inl (.inl (s6 _ _ e5))), rfl, flatN _, _, rfl, ?_⟩
            show if (!inV (nV x) ((badN ns l r).map nV)) = true then _ else _
            rw [not_in]
            refine ite_ok (fun hz => ?_) fun hz => ?_
            · rw [if_pos (decide_eq_true hz)] at su
              refine ⟨_, rfl, _, e6, by rw [List.length_map, sizeLine_eq]; omega, same_put s6 nU, ?_, ?_⟩
              · rw [upd_same, su, List.map_append]
                rfl
              · rw [su, List.length_append]
                exact Nat.succ_le_succ l6
            · rw [if_neg (by simpa using hz), List.append_nil] at su
              rw [su]
              exact ⟨s6, e6, by omega⟩
          · rintro H6 ⟨s6, e6, _⟩
            rw [List.length_map, List.take_length] at e6
            dsimp only [gName]
            refine ⟨_, ?_, r.filter fun c => decide (c ∉ badN ns l r), !decide (badN ns l r = []), U, _, _, _, _, rfl, s35.trans s6, e6, wr.strike, fun z => ?_, rfl⟩
            · rw [em]
              by_cases z : badN ns l r = []
              · rw [decide_eq_true z, if_neg (by simp)]
                omega
              · rw [decide_eq_false z, if_pos (by rfl : (!false) = true)]
                have := OnWay.less z
                omega
            · have z : badN ns l r = [] := by simpa using z
              have e : (r.filter fun c => decide (c ∉ badN ns l r)) = r := by
                rw [z]
                exact List.filter_eq_self.mpr fun c _ => by simp
              rw [e]
              exact z
      | false =>
        refine iteF ?_
        refine ⟨_, rfl, .inl ⟨Dr, _, rfl, .inl (.inl e3), fun t2 nt2 => ?_⟩⟩
        exact q r t2 _ (s3.trans (same_upd nt2)) (s3.free nt2) upd_same (wr.done cl (sh rfl))
end
end Rip

/-! The law's own ripe and behind; a thing of a tuple. -/
namespace Rip
open PySem PySem.Spec PyProof.Rows L2 RipS
theorem ints_shapedT (l : List Nat) : SeqAt.shaped (.tuple (l.map fun x : Nat => PyData.int (x : Int))) = true := by
  have z := ints_shaped l
  unfold SeqAt.shaped at z ⊢
  exact z
theorem eqv_nilT : ∀ l : List Nat, PyData.eqv (.tuple (l.map fun x : Nat => PyData.int (x : Int))) (.tuple []) = decide (l = [])
  | [] => rfl
  | x :: l => rfl
section
variable {P : Program} {w : World} {K : PySem.W.Frag} {mg : Str → Option Value} {base : Heap}
def spSomeT (K : PySem.W.Frag) : Sp := fun vs H Q _ => ∃ (b g t : Addr) (xs : List V), vs = [.ref b, .ref t] ∧ BagAt H b g ∧ SqT K H t xs ∧ 0 < xs.length ∧ xs.length < 1073741824 ∧
  ∀ (x : V) (H' : Hp), x ∈ xs → BagAt H' b g → SameB b g H H' → Q x H'
theorem ok_someT {f : Addr} {fd : FuncData} (F : Fun K "_law_some" "_law_some" sSome f fd) (T : Blt mg) (hP : Has P w K mg base CX0 1 "_law_pick" ["_law_bag_here", "_law_many"] spPick) : FnOk P w K mg base CX0 2 f fd ["_law_bag_here", "_law_things"] (spSomeT K) := by
  obtain ⟨fP, fdP, GP, kP, bP, gP⟩ := hP
  refine F.ok scO (fun vs H Q E h => ?_) (fun cdv A outer s H vs Q E hr h => ?_)
  · obtain ⟨b, g, t, xs, rfl, _⟩ := h
    rfl
  · obtain ⟨b, g, t, xs, rfl, B, ht, h0, h1, q⟩ := h
    refine ⟨_, (pss_one (ps_ret (pe_ix ix_tup (pv 1) (pe_call GP hr (by rfl) gP kP bP .nil pass0 (pa_cons (pv 0) (pa_cons (pe_callB call_len_seq (by rfl) T.len PySem.boot_len (pa_cons (pv 1) pa_nil)) pa_nil))) (fun _ _ => rfl)))), ?_⟩
    refine ⟨_, rfl, _, rfl, _, rfl, t, xs, rfl, .inr ht, b, g, _, rfl, B, by omega, by omega, fun r H' r0 r1 B' sb => ?_⟩
    have hlt : r.toNat < xs.length := by omega
    exact ⟨t, xs, r, xs[r.toNat], rfl, rfl, seqT_kp B (Kp.sameB sb) ht, at_of (j := r.toNat) (by omega) (List.getElem?_eq_getElem hlt), q _ H' (List.getElem_mem hlt) B' sb⟩
/-! ### ripe -/
abbrev s_lri : Stmt := top 41
/-- the blocks by which something comes -/
def LRi (bl : List Nat) (ns : List (Nat × Nat)) (l R : List Nat) : Prop := R.Pairwise (· < ·) ∧ ∀ b, b ∈ R ↔ b ∈ bl ∧ ∀ r, LBr bl ns l b r → r ≠ []
def spLri (K : PySem.W.Frag) : Sp := fun vs H Q _ => ∃ (mt na t : Addr) (bl : List Nat) (ns : List (Nat × Nat)) (l : List Nat), vs = [.ref mt, .ref na, .ref t] ∧ SqT K H mt (bl.map nV) ∧ PairsAt K H na ns ∧ SqT K H t (l.map nV) ∧ bl.length ≤ 1000 ∧ (∀ b ∈ bl, b < 60) ∧ ns.length ≤ 4000 ∧ ClosedL ns l ∧
  ∀ (R : List Nat) (t2 : Addr) (H' : Hp), Same H H' → H t2 = none → H' t2 = some (.tup (R.map nV)) → LRi bl ns l R → Q (.ref t2) H'
abbrev scPrN2 : List Str := ["_law_blocks", "_law_needs_here", "_law_there", "_law_block"]
theorem scPr2 : FnScope scPrN2 ["_law_blocks", "_law_needs_here", "_law_there"] (defScope s_lri) := ⟨rfl, rfl, rfl, by decide +kernel, rfl, by decide +kernel, by decide +kernel⟩
theorem ok_lri {f : Addr} {fd : FuncData} (F : Fun K "_law_ripe" "_law_ripe" s_lri f fd) (B : Blt mg) (hst : mg "set" = none) (hsr : mg "sorted" = none) (hB : Has P w K mg base CX0 1 "_law_brought" ["_law_blocks", "_law_needs_here", "_law_there", "_law_block"] (spLbr K)) :
    FnOk P w K mg base CX0 2 f fd ["_law_blocks", "_law_needs_here", "_law_there"] (spLri K) := by
  obtain ⟨fB, fdB, GB, kB, bB, gB⟩ := hB
  refine F.ok scPr2 (fun vs H Q E h => ?_) (fun cdv A outer s H vs Q E hr h => ?_)
  · obtain ⟨mt, na, t, bl, ns, l, rfl, _⟩ := h
    rfl
  · obtain ⟨mt, na, t, bl, ns, l, rfl, hm, PA, ht, hn, h60, hl, cl, q⟩ := h
    refine ⟨_,
      (pss_one (ps_ret (pe_tupleOf (by rfl) B.tuple (pe_lc (own := [("_law_block", 3)]) (g := gName 3) (tt := tTest (tOp (rNeD K) (tCall (spLbr K) [] E0 (tCons (tVar 0) (tCons (tVar 1) (tCons (tVar 2) (tCons (tVar 3) tNil))))) (tTup tNil))) (te := tVar 3) rfl scPr2.nd (pi_list (pe_callB (cr_sortedSet rfl) (by rfl) hsr boot_sortedI (pa_cons (pe_callTy (cr_setI rfl) (by rfl) hst boot_setI (pa_cons (pv 0) pa_nil)) pa_nil))) (blkOk_by (own := [("_law_block", 3)]) (N := scPrN2) (sc := defScope s_lri) (by decide +kernel))
        (fun _ _ _ _ _ => (pg_name (i := 3) scPr2.nd rfl (.inl rfl))) (fun _ _ _ _ _ => (pts_one (pt_cmpR (op_neD hr.units) (pe_call GB hr (by rfl) gB kB bB .nil pass0 (pa_cons (pv 0) (pa_cons (pv 1) (pa_cons (pv 2) (pa_cons (pv 3) pa_nil))))) (pe_tup pa_nil) (nomark _)))) (fun _ _ _ _ _ => (pv 3)))))), ?_⟩
    refine ⟨_, rfl, mt, bl.map fun x : Nat => (x : Int), rfl, .inr (by rw [← map_nV]; exact hm), by rw [List.length_map]; exact hn, fun S ms nd mem nS => ?_⟩
    have few := ms_few nd mem h60
    refine ⟨S, _, ms.length, rfl, upd_same, by omega, fun ls L asc memL lenL nL => ?_⟩
    obtain ⟨ks, rfl, ascK, memK⟩ := ls_nats asc memL
    rw [← map_nV]
    rw [List.length_map] at lenL
    have sL := (same_upd nS).trans (same_upd (o := .lst (ks.map nV)) nL)
    have eL : ∀ {G : Hp}, G L = none → upd G L (.lst (ks.map nV)) L = some (.lst (ks.map nV)) := fun _ => upd_same
    have lk : ks.length ≤ 64 := by omega
    refine ⟨L, rfl, ⟨_, .inl (.inl (eL nL))⟩, fun D nD => ?_⟩
    have hD0 : H D = none := sL.free nD
    have nDL : L ≠ D := ne_of_none (eL nL) nD
    refine lc_walk (walk_list (K := K) (a := L) (xs := ks.map nV)) (fun i H2 => Same H H2 ∧ H2 L = some (.lst (ks.map nV)) ∧ ∃ R : List Nat, H2 D = some (.lst (R.map nV)) ∧ R.length ≤ i ∧ R.Pairwise (· < ·) ∧ ∀ b, b ∈ R ↔ b ∈ ks.take i ∧ ∀ r, LBr bl ns l b r → r ≠ [])
      ⟨sL.trans (same_upd nD), same_upd nD _ _ (eL nL), [], upd_same, Nat.zero_le _, .nil, fun b => ⟨(fun h => nomatch h), (fun h => nomatch (show b ∈ ([] : List Nat) from h.1))⟩⟩ (fun i H2 _ z => .inl (.inl z.2.1)) ?_ ?_
    · rintro i x H2 H3 hi ⟨s2, eL2, R, eR, lR, aR, mR⟩ ⟨rfl, ex⟩
      rw [List.length_map] at hi
      rw [List.getElem?_map] at ex
      have ek : ks[i]? = some ks[i] := List.getElem?_eq_getElem hi
      rw [ek] at ex
      cases ex
      generalize ks[i] = b at ek
      have tk := take_one ek
      have big : ∀ y ∈ ks.take i, y < b := fun y hy => by
        have z := ascK.sublist (List.take_sublist (i + 1) ks)
        rw [tk] at z
        exact (List.pairwise_append.mp z).2.2 y hy b (List.mem_singleton.mpr rfl)
      refine ⟨rfl, _, rfl, _, rfl, _, rfl, _, rfl, mt, na, t, bl, ns, l, b, rfl, same_seqT s2 hm, PA.same s2, same_seqT s2 ht, hn, hl, cl, fun r t2 H4 s4 n4 e4 br => ⟨Nat.zero_le _, fun E nE => ?_⟩⟩
      have s5 : Same H4 (upd H4 E (.tup [])) := same_upd nE
      have eE : upd H4 E (.tup []) E = some (.tup []) := upd_same
      generalize upd H4 E (.tup []) = H5 at s5 eE ⊢
      refine ⟨.tuple (r.map fun x : Nat => PyData.int (x : Int)), .tuple [], .tup (.inl (.inl (s5 _ _ e4))) (dpAll_nats _), .tup (.inl (.inl eE)) .nil, ints_shapedT _, by decide, _, rfl, ?_⟩
      rw [eqv_nilT]
      have s25 := s4.trans s5
      have eR5 := s25 _ _ eR
      have eL5 := s25 _ _ eL2
      by_cases hz : r = []
      · rw [decide_eq_true hz]
        refine iteF ⟨s2.trans s25, eL5, R, eR5, by omega, aR, fun y => ?_⟩
        rw [mR, tk, List.mem_append, List.mem_singleton]
        constructor
        · exact fun ⟨h1, h2⟩ => ⟨.inl h1, h2⟩
        · rintro ⟨h1 | h1, h2⟩
          · exact ⟨h1, h2⟩
          · rw [h1] at h2
            exact absurd hz (h2 r br)
      · rw [decide_eq_false hz]
        refine iteT ⟨_, rfl, _, eR5, by rw [List.length_map, sizeLine_eq]; omega, same_put (s2.trans s25) hD0, by rw [upd_ne nDL]; exact eL5, R ++ [b], ?_, ?_, ?_, fun y => ?_⟩
        · rw [upd_same, List.map_append]
          rfl
        · rw [List.length_append]
          exact Nat.succ_le_succ lR
        · refine List.pairwise_append.mpr ⟨aR, List.pairwise_singleton .., fun y hy z hz2 => ?_⟩
          rw [List.mem_singleton.mp hz2]
          exact big y ((mR y).mp hy).1
        · rw [List.mem_append, List.mem_singleton, mR, tk, List.mem_append, List.mem_singleton]
          constructor
          · rintro (⟨h1, h2⟩ | h1)
            · exact ⟨.inl h1, h2⟩
            · exact ⟨.inr h1, fun r2 b2 => by rw [h1] at b2; rw [← br.uniq b2]; exact hz⟩
          · rintro ⟨h1 | h1, h2⟩
            · exact .inl ⟨h1, h2⟩
            · exact .inr h1
    · rintro H2 ⟨s2, eL2, R, eR, lR, aR, mR⟩
      rw [List.length_map, List.take_length] at mR
      refine .inl ⟨D, _, rfl, .inl (.inl eR), fun t2 n2 => ?_⟩
      exact q R t2 _ (s2.trans (same_upd n2)) (s2.free n2) upd_same ⟨aR, fun b => by rw [mR, memK]⟩
end
end Rip

/-! The law's own list of all lots that can come. -/
namespace Rip
open PySem PySem.Spec PyProof.Rows L2 RipS
/-- those of a list that stand where a number has bits, among the first k -/
def pickN (own : List Nat) (n k : Nat) : List Nat := ((List.range k).filter fun i => n.testBit i).map fun i => own.getD i 0
theorem pickN_succ (own : List Nat) (n k : Nat) : pickN own n (k + 1) = pickN own n k ++ (if n.testBit k = true then [own.getD k 0] else []) := by
  unfold pickN
  rw [List.range_succ, List.filter_append, List.map_append, List.filter_cons]
  cases n.testBit k <;> rfl
theorem mem_pickN {own : List Nat} {n k c : Nat} : c ∈ pickN own n k ↔ ∃ i, i < k ∧ n.testBit i = true ∧ own.getD i 0 = c := by
  unfold pickN
  rw [List.mem_map]
  constructor
  · rintro ⟨i, h, e⟩
    obtain ⟨h1, h2⟩ := List.mem_filter.mp h
    exact ⟨i, List.mem_range.mp h1, h2, e⟩
  · rintro ⟨i, h1, h2, e⟩
    exact ⟨i, List.mem_filter.mpr ⟨List.mem_range.mpr h1, h2⟩, e⟩
theorem pickN_len (own : List Nat) (n k : Nat) : (pickN own n k).length ≤ k := by
  unfold pickN
  rw [List.length_map]
  have z := List.length_filter_le (fun i => n.testBit i) (List.range k)
  rw [List.length_range] at z
  exact z
theorem asc_getD {l : List Nat} (h : l.Pairwise (· < ·)) {i j : Nat} (hij : i < j) (hj : j < l.length) : l.getD i 0 < l.getD j 0 := by
  rw [getD_some (List.getElem?_eq_getElem hj), getD_some (List.getElem?_eq_getElem (Nat.lt_trans hij hj))]
  exact List.pairwise_iff_getElem.mp h i j (by omega) hj hij
theorem pickN_asc {own : List Nat} (h : own.Pairwise (· < ·)) (n : Nat) {k : Nat} (hk : k ≤ own.length) : (pickN own n k).Pairwise (· < ·) := by
  unfold pickN
  refine List.pairwise_map.mpr ((List.pairwise_lt_range.filter _).imp_of_mem fun {i j} hi hj hij => ?_)
  have := List.mem_range.mp (List.mem_filter.mp hj).1
  exact asc_getD h hij (by omega)
/-- the number whose bits stand at a lot's places -/
def numOf (own r : List Nat) : Nat := maskOf ((List.range own.length).filter fun i => decide (own.getD i 0 ∈ r))
theorem numOf_lt (own r : List Nat) : numOf own r < 2 ^ own.length := maskOf_lt fun c hc => List.mem_range.mp (List.mem_filter.mp hc).1
theorem pickN_num {own r : List Nat} (ho : own.Pairwise (· < ·)) (hr : r.Pairwise (· < ·)) (sub : ∀ c ∈ r, c ∈ own) : pickN own (numOf own r) own.length = r := by
  refine asc_same (pickN_asc ho _ (Nat.le_refl _)) hr fun c => ?_
  rw [mem_pickN]
  have bit : ∀ i, (numOf own r).testBit i = true ↔ i < own.length ∧ own.getD i 0 ∈ r := fun i => by
    unfold numOf
    rw [bit_maskOf, decide_eq_true_eq, List.mem_filter, List.mem_range, decide_eq_true_eq]
  constructor
  · rintro ⟨i, _, h2, e⟩
    rw [← e]
    exact ((bit i).mp h2).2
  · intro h
    obtain ⟨i, hi, e⟩ := List.getElem_of_mem (sub c h)
    have eg : own.getD i 0 = c := by rw [getD_some (List.getElem?_eq_getElem hi), e]
    exact ⟨i, hi, (bit i).mpr ⟨hi, by rw [eg]; exact h⟩, eg⟩
/-- whether what these need is among them or there -/
def shutX (ns : List (Nat × Nat)) (l x : List Nat) : Bool := ((ns.filter fun p => decide (p.1 ∈ x)).map fun p => decide (p.2 ∈ x) || decide (p.2 ∈ l)).all id
theorem shutX_iff {ns : List (Nat × Nat)} {l x : List Nat} : shutX ns l x = true ↔ ∀ p ∈ ns, p.1 ∈ x → p.2 ∈ x ∨ p.2 ∈ l := by
  unfold shutX
  rw [List.all_map, List.all_eq_true]
  constructor
  · intro h p hp h1
    have z : (decide (p.2 ∈ x) || decide (p.2 ∈ l)) = true := h p (List.mem_filter.mpr ⟨hp, decide_eq_true h1⟩)
    rw [Bool.or_eq_true, decide_eq_true_eq, decide_eq_true_eq] at z
    exact z
  · intro h p hp
    obtain ⟨h1, h2⟩ := List.mem_filter.mp hp
    show (decide (p.2 ∈ x) || decide (p.2 ∈ l)) = true
    rw [Bool.or_eq_true, decide_eq_true_eq, decide_eq_true_eq]
    exact h p h1 (of_decide_eq_true h2)
theorem LBr.shut {bl : List Nat} {ns : List (Nat × Nat)} {l r : List Nat} {b : Nat} (br : LBr bl ns l b r) : shutX ns l r = true := by
  refine shutX_iff.mpr fun p hp h1 => ?_
  have z := ((br.2 p.1).mp h1).2.2
  by_cases y : p.2 ∈ l
  · exact .inr y
  · refine .inl ((br.2 p.2).mpr ⟨?_, y, fun o fo => z o (.step hp fo)⟩)
    rcases z p.2 (.one hp) with h | h
    · exact absurd h y
    · exact h
theorem LBr.great {bl : List Nat} {ns : List (Nat × Nat)} {l r x : List Nat} {b : Nat} (br : LBr bl ns l b r) (cl : ClosedL ns l) (sub : ∀ c ∈ x, bl[c]? = some b ∧ c ∉ l) (sh : shutX ns l x = true) : ∀ c ∈ x, c ∈ r := by
  have key : ∀ c o, Far ns c o → c ∈ x → o ∈ x ∨ o ∈ l := by
    intro c o f
    induction f with
    | one e => exact fun hc => shutX_iff.mp sh _ e hc
    | step e f ih =>
      intro hc
      rcases shutX_iff.mp sh _ e hc with h1 | h1
      · exact ih h1
      · exact .inr (cl _ h1 _ f)
  intro c hc
  refine (br.2 c).mpr ⟨(sub c hc).1, (sub c hc).2, fun o fo => ?_⟩
  rcases key c o fo hc with h | h
  · exact .inr (sub o h).1
  · exact .inl h
/-- at L a list of tuples of numbers -/
def TupsAt (K : PySem.W.Frag) (H : Hp) (L : Addr) (M : List (List Nat)) : Prop := ∃ rs : List Addr, H L = some (.lst (rs.map V.ref)) ∧ rs.length = M.length ∧ ∀ (i : Nat) (r : Addr) (x : List Nat), rs[i]? = some r → M[i]? = some x → SqT K H r (x.map nV)
theorem TupsAt.same {K : PySem.W.Frag} {H H' : Hp} {L : Addr} {M : List (List Nat)} (h : TupsAt K H L M) (s : Same H H') : TupsAt K H' L M := by
  obtain ⟨rs, h1, h2, h3⟩ := h
  exact ⟨rs, s _ _ h1, h2, fun i r m x y => same_seqT s (h3 i r m x y)⟩
theorem TupsAt.snoc {K : PySem.W.Frag} {H : Hp} {L r : Addr} {M : List (List Nat)} {m : List Nat} (h : TupsAt K H L M) (hr : SqT K H r (m.map nV)) (hl : M.length ≤ 8000000) :
    ∃ acc, H L = some (.lst acc) ∧ acc.length < sizeLine ∧ TupsAt K (upd H L (.lst (acc ++ [.ref r]))) L (M ++ [m]) := by
  obtain ⟨rs, h1, h2, h3⟩ := h
  refine ⟨_, h1, by rw [List.length_map, sizeLine_eq]; omega, rs ++ [r], by rw [upd_same, List.map_append]; rfl, by rw [List.length_append, List.length_append, h2]; rfl, fun i q k x y => ?_⟩
  refine seqT_putL h1 ?_
  by_cases hi : i < rs.length
  · rw [List.getElem?_append_left hi] at x
    rw [List.getElem?_append_left (by omega)] at y
    exact h3 i q k x y
  · have e : i = rs.length := by
      have := (List.getElem?_eq_some_iff.mp x).1
      rw [List.length_append] at this
      have : i < rs.length + 1 := this
      omega
    subst e
    rw [List.getElem?_append_right (Nat.le_refl _), Nat.sub_self] at x
    rw [h2, List.getElem?_append_right (Nat.le_refl _), Nat.sub_self] at y
    have x' : r = q := Option.some.inj x
    have y' : m = k := Option.some.inj y
    subst x' y'
    exact hr
section
variable {P : Program} {w : World} {K : PySem.W.Frag} {mg : Str → Option Value} {base : Heap}
abbrev s_lal : Stmt := top 45
def spLal (K : PySem.W.Frag) : Sp := fun vs H Q _ => ∃ (mt na t : Addr) (bl : List Nat) (ns : List (Nat × Nat)) (l : List Nat) (b : Nat), vs = [.ref mt, .ref na, .ref t, nV b] ∧ SqT K H mt (bl.map nV) ∧ PairsAt K H na ns ∧ SqT K H t (l.map nV) ∧ bl.length ≤ 20 ∧ ns.length ≤ 4000 ∧ ClosedL ns l ∧
  ∀ (M : List (List Nat)) (L : Addr) (H' : Hp), Same H H' → H L = none → TupsAt K H' L M → M.length ≤ 1048576 → (∀ r, LBr bl ns l b r → r ∈ M ∧ ∀ x ∈ M, ∀ c ∈ x, c ∈ r) → (∀ x ∈ M, x.length ≤ 20) → Q (.ref L) H'
abbrev scAlN : List Str := ["_law_blocks", "_law_needs_here", "_law_there", "_law_block", "_law_own", "_law_change", "_law_made", "_law_number", "_law_lot", "_law_at", "_law_one", "_law_other"]
theorem scAl : FnScope scAlN ["_law_blocks", "_law_needs_here", "_law_there", "_law_block"] (defScope s_lal) := ⟨rfl, rfl, rfl, by decide +kernel, rfl, by decide +kernel, by decide +kernel⟩
theorem bit_of (n i : Nat) : ((n : Int) / 2 ^ i) % 2 = if n.testBit i = true then 1 else 0 := by
  have h := Nat.testBit_eq_decide_div_mod_eq (x := n) (i := i)
  have e : ((n : Int) / 2 ^ i) % 2 = ((n / 2 ^ i % 2 : Nat) : Int) := by
    rw [two_pow_cast]
    omega
  rw [e, h]
  have := Nat.mod_two_eq_zero_or_one (n / 2 ^ i)
  rcases this with z | z <;> rw [z] <;> rfl
theorem ok_lal {f : Addr} {fd : FuncData} (F : Fun K "_law_all_lots" "_law_all_lots" s_lal f fd) (B : Blt mg) : FnOk P w K mg base CX0 1 f fd ["_law_blocks", "_law_needs_here", "_law_there", "_law_block"] (spLal K) := by
  refine F.ok scAl (fun vs H Q E h => ?_) (fun cdv A outer s H vs Q E hr h => ?_)
  · obtain ⟨mt, na, t, bl, ns, l, b, rfl, _⟩ := h
    rfl
  · obtain ⟨mt, na, t, bl, ns, l, b, rfl, hm, PA, ht, hn, hl, cl, q⟩ := h
    refine ⟨_,
      (pss_cons (ps_setLc (i := 4) (own := [("_law_change", 5)]) (g := gName 5) (tt := tAnd (tTest (tOp rEq (tOp (rIxT K) (tVar 0) (tVar 5)) (tVar 3))) (tTest (tOp (rIn K true) (tVar 5) (tVar 2)))) (te := tVar 5) rfl scAl.nd rfl rfl (sw_true rfl rfl rfl (by decide +kernel)) (pi_range1 rfl B.range (pa_cons (pe_callB call_len_seq (by rfl) B.len PySem.boot_len (pa_cons (pv 0) pa_nil)) pa_nil)) (blkOk_by (own := [("_law_change", 5)]) (N := scAlN) (sc := defScope s_lal) (by decide +kernel)) (fun _ _ _ _ _ => (pg_name (i := 5) scAl.nd rfl (.inl rfl)))
        (fun _ _ _ _ _ => (pts_one (PW.pt (pw_and (pt_cmpR op_eq (pe_ix ix_tup (pv 0) (pv 5) (fun _ _ => rfl)) (pv 3) (nomark _)) (pw_and1 (pt_cmpR op_notIn_seq (pv 5) (pv 2) (by with_unfolding_all rfl))))))) (fun _ _ _ _ _ => (pv 5)))
      (pss_cons (ps_set (i := 6) scAl.nd rfl (.inl rfl) (pe_lst pa_nil))
      (pss_cons (ps_for PassesOwn.never rfl (pi_range1 rfl B.range (pa_cons (pe_op op_shl pe_int (pe_callB call_len_seq (by rfl) B.len PySem.boot_len (pa_cons (pv 4) pa_nil))) pa_nil)) (pg_name (i := 7) scAl.nd rfl (.inr rfl))
        (pss_cons (ps_set (i := 8) scAl.nd rfl (.inr rfl) (pe_lc (own := [("_law_at", 9), ("_law_change", 5)]) (g := gTwo K 9 5) (tt := tTest (tOp rEq (tOp (rI (fun _ j => 0 < j) fun i j => .int (i % j)) (tCB (fun xs H Q => (∃ i, xs = [.int i] ∧ Q (.int i) H) ∨ ∃ k, xs = [.bl k] ∧ Q (.int (if k then 1 else 0)) H) (tCons (tOp (rI (fun _ j => 0 ≤ j) fun i j => .int (i / 2 ^ j.toNat)) (tVar 7) (tVar 9)) tNil)) (tC (.int 2))) (tC (.int 1)))) (te := tVar 5) rfl scAl.nd (pi_enum (by rfl) B.enumerate (pa_cons (pv 4) pa_nil)) (blkOk_by (own := [("_law_at", 9), ("_law_change", 5)]) (N := scAlN) (sc := defScope s_lal) (by decide +kernel))
          (fun _ _ _ _ _ => (pg_tup rfl (pgs_cons (pg_name (i := 9) scAl.nd rfl (.inl rfl)) (pgs_cons (pg_name (i := 5) scAl.nd rfl (.inl rfl)) pgs_nil))))
          (fun _ _ _ _ _ => (pts_one (pt_cmpR op_eq (pe_op op_mod (pe_callTy call_int1 (by rfl) B.int PyProof.Rows.boot_int (pa_cons (pe_op op_shr (pv 7) (pv 9)) pa_nil)) pe_int) pe_int (nomark _)))) (fun _ _ _ _ _ => (pv 5))))
        (pss_one (ps_if (pt_val (pe_callB (cr_all rfl) (by rfl) B.all PyProof.Rows.boot_all (pa_cons (pe_lc (own := [("_law_one", 10), ("_law_other", 11)]) (g := gTwo K 10 11) (tt := tTest (tOp (rIn K false) (tVar 10) (tVar 8))) (te := tOrV (tOp (rIn K false) (tVar 11) (tVar 8)) (tOp (rIn K false) (tVar 11) (tVar 2))) rfl scAl.nd (pi_tup (pv 1)) (blkOk_by (own := [("_law_one", 10), ("_law_other", 11)]) (N := scAlN) (sc := defScope s_lal) (by decide +kernel))
            (fun _ _ _ _ _ => (pg_tup rfl (pgs_cons (pg_name (i := 10) scAl.nd rfl (.inl rfl)) (pgs_cons (pg_name (i := 11) scAl.nd rfl (.inl rfl)) pgs_nil))))
            (fun _ _ _ _ _ => (pts_one (pt_cmpR op_in_seq (pv 10) (pv 8) (by with_unfolding_all rfl)))) (fun _ _ _ _ _ => (pe_or (pe_cmpR op_in_seq (pv 11) (pv 8) (by with_unfolding_all rfl)) (pe_one (pe_cmpR op_in_seq (pv 11) (pv 2) (by with_unfolding_all rfl)))))) pa_nil)))
          (pss_one (ps_expr (pe_bm PySem.F.plainAttrs_list PySem.F.slot_list_append PySem.F.type_list_append mt_append (pv 6) (pa_cons (pe_tupleOf (by rfl) B.tuple (pv 8)) pa_nil)))) pss_nil))))
      (pss_one (ps_ret (pv 6)))))), ?_⟩
    obtain ⟨ps, hS, hpl, hps⟩ := id PA
    refine ⟨_, rfl, mt, _, rfl, .inr hm, _, rfl, by rw [List.length_map]; omega, by rw [List.length_map]; omega, fun D nD => ?_⟩
    rw [List.length_map, show ((bl.length : Int)).toNat = bl.length from Int.toNat_natCast _]
    refine lc_range (n := bl.length) (fun i H2 => Same H H2 ∧ H2 D = some (.lst (((List.range i).filter fun c => decide (bl[c]? = some b ∧ c ∉ l)).map nV)) ∧ ((List.range i).filter fun c => decide (bl[c]? = some b ∧ c ∉ l)).length ≤ i)
      ⟨same_upd nD, upd_same, Nat.zero_le _⟩ ?_ ?_
    · rintro i H2 hi ⟨s2, e2, l2⟩
      have ei : bl[i]? = some bl[i] := List.getElem?_eq_getElem hi
      generalize bl[i] = x at ei
      have su : ((List.range (i + 1)).filter fun c => decide (bl[c]? = some b ∧ c ∉ l)) = ((List.range i).filter fun c => decide (bl[c]? = some b ∧ c ∉ l)) ++ (if decide (bl[i]? = some b ∧ i ∉ l) = true then [i] else []) := by
        rw [List.range_succ, List.filter_append, List.filter_cons]
        rfl
      refine ⟨rfl, _, rfl, _, rfl, mt, _, _, nV x, rfl, rfl, same_seqT s2 hm, at_of (j := i) (Int.zero_add _) (by rw [List.getElem?_map, ei]; rfl), _, rfl, rfl, _, rfl, ?_⟩
      by_cases ex : x = b
      · rw [decide_eq_true (show nV x = nV b by rw [ex])]
        refine iteT ⟨_, rfl, _, rfl, t, _, rfl, .inr (same_seqT s2 ht), rfl, flatN l, _, rfl, ?_⟩
        rw [Int.zero_add]
        show if (!inV (nV i) (l.map nV)) = true then _ else _
        rw [not_in]
        refine ite_ok (fun hz => ?_) fun hz => ?_
        · rw [if_pos (decide_eq_true ⟨by rw [ei, ex], hz⟩)] at su
          refine ⟨_, rfl, _, e2, by rw [List.length_map, sizeLine_eq]; omega, same_put s2 nD, ?_, ?_⟩
          · rw [upd_same, su, List.map_append]
            rfl
          · rw [su, List.length_append]
            exact Nat.succ_le_succ l2
        · rw [if_neg (by simp [hz]), List.append_nil] at su
          rw [su]
          exact ⟨s2, e2, by omega⟩
      · rw [decide_eq_false (show ¬ nV x = nV b from fun z => ex (by injection z with z; omega))]
        refine iteF (iteF ?_)
        rw [if_neg (by rw [ei]; simp [ex]), List.append_nil] at su
        rw [su]
        exact ⟨s2, e2, by omega⟩
    rintro H2 ⟨s2, e2, l2⟩
    have w0 := OnWay.start bl ns l b
    generalize ((List.range bl.length).filter fun c => decide (bl[c]? = some b ∧ c ∉ l)) = own at e2 w0 l2
    have mo : ∀ c, bl[c]? = some b → c ∉ l → (∀ o, Far ns c o → o ∈ l ∨ bl[o]? = some b) → c ∈ own := w0.all
    have k20 : own.length ≤ 20 := by omega
    dsimp only [gName]
    refine st_eq (σ' := [some (.ref mt), some (.ref na), some (.ref t), some (nV b), some (.ref D), none, none, none, none, none, none, none]) rfl ?_
    refine ⟨Nat.zero_le _, fun L nL => ?_⟩
    have nL0 : H L = none := s2.free nL
    have nDL : D ≠ L := ne_of_none e2 nL
    have s3 : Same H2 (upd H2 L (.lst [])) := same_upd nL
    have tu : TupsAt K (upd H2 L (.lst [])) L [] := ⟨[], upd_same, rfl, fun i r x h => by cases h⟩
    have e3 : upd H2 L (.lst []) D = some (.lst (own.map nV)) := s3 _ _ e2
    generalize upd H2 L (.lst []) = H3 at s3 tu e3 ⊢
    dsimp only [gName]
    refine st_eq (σ' := [some (.ref mt), some (.ref na), some (.ref t), some (nV b), some (.ref D), none, some (.ref L), none, none, none, none, none]) rfl ?_
    have p20 : (2 : Nat) ^ own.length ≤ 2 ^ 20 := Nat.pow_le_pow_right (by decide) k20
    have eN : ((1 : Int) * 2 ^ ((own.map nV).length : Int).toNat) = ((2 ^ own.length : Nat) : Int) := by
      rw [List.length_map, Int.toNat_natCast, Int.one_mul, two_pow_cast]
    refine ⟨_, rfl, D, _, rfl, .inl (.inl (.inl e3)), _, _, rfl, rfl, ⟨by omega, by rw [List.length_map]; omega, by decide⟩, _, rfl, ?_, ?_, ?_⟩
    · show -(2 ^ 62) ≤ ((1 : Int) * 2 ^ ((own.map nV).length : Int).toNat)
      rw [eN]
      exact Int.le_trans (by decide) (Int.natCast_nonneg _)
    · show ((1 : Int) * 2 ^ ((own.map nV).length : Int).toNat) < 2 ^ 62
      rw [eN]
      exact Int.lt_of_le_of_lt (Int.ofNat_le.mpr p20) (by decide)
    rw [show ((1 : Int) * 2 ^ ((own.map nV).length : Int).toNat) = ((2 ^ own.length : Nat) : Int) from eN, Int.toNat_natCast]
    refine for_range (n := 2 ^ own.length) (fun i σ H4 => ∃ (M : List (List Nat)) (y5 y7 y8 y9 y10 y11 : Option V), σ = [some (.ref mt), some (.ref na), some (.ref t), some (nV b), some (.ref D), y5, some (.ref L), y7, y8, y9, y10, y11] ∧ Same H H4 ∧ H4 D = some (.lst (own.map nV)) ∧ TupsAt K H4 L M ∧
        M.length ≤ i ∧ (∀ x ∈ M, (∀ c ∈ x, c ∈ own) ∧ shutX ns l x = true ∧ x.length ≤ 20) ∧ ∀ n, n < i → shutX ns l (pickN own n own.length) = true → pickN own n own.length ∈ M)
      ⟨[], none, none, none, none, none, none, rfl, s2.trans s3, e3, tu, Nat.zero_le _, (fun x h => nomatch h), fun n h => absurd h (Nat.not_lt_zero _)⟩ ?_ ?_
    · rintro i σ H4 hi ⟨M, y5, y7, y8, y9, y10, y11, rfl, s4, e4, tu4, lM, inM, alM⟩
      dsimp only [gName]
      refine st_eq (σ' := [some (.ref mt), some (.ref na), some (.ref t), some (nV b), some (.ref D), y5, some (.ref L), some (.int (0 + (i : Int))), y8, y9, y10, y11]) rfl ?_
      refine ⟨_, rfl, D, _, rfl, .inl (.inl e4), fun T nT => ?_⟩
      have nT0 : H T = none := s4.free nT
      have nTD : D ≠ T := ne_of_none e4 nT
      have eLs : ∃ zs, H4 L = some (.lst zs) := by
        obtain ⟨rs, h1, _⟩ := tu4
        exact ⟨_, h1⟩
      obtain ⟨zs, eL4⟩ := eLs
      have nTL : L ≠ T := ne_of_none eL4 nT
      refine lc_it (walk_enum (K := K) (a := D) (xs := own.map nV)) (fun k H5 => Same H4 H5 ∧ H5 T = some (.lst ((pickN own i k).map nV))) ⟨same_upd nT, upd_same⟩ (fun k H5 _ z => .inl (.inl (z.1 _ _ e4))) ?_ ?_
      · rintro k x H5 H6 hk ⟨s5, e5⟩ ⟨T2, v1, v2, rfl, nT2, rfl, x1, x2⟩
        rw [List.length_map] at hk
        have x1 : V.int (k : Int) = v1 := Option.some.inj x1
        have x2 : (own.map nV)[k]? = some v2 := x2
        subst x1
        have ek : own[k]? = some own[k] := List.getElem?_eq_getElem hk
        rw [List.getElem?_map, ek] at x2
        cases x2
        have gd : own.getD k 0 = own[k] := getD_some ek
        have su := pickN_succ own i k
        rw [gd] at su
        generalize own[k] = c at su
        have nTT : T ≠ T2 := ne_of_none e5 nT2
        have s6 : Same H4 (upd H5 T2 (.tup [.int (k : Int), nV c])) := s5.trans (same_upd nT2)
        have e6 : upd H5 T2 (.tup [.int (k : Int), nV c]) T = some (.lst ((pickN own i k).map nV)) := by rw [upd_ne nTT]; exact e5
        refine ⟨T2, _, rfl, .inl (.inl upd_same), rfl, _, _, rfl, _, [], rfl, rfl, ?_⟩
        generalize upd H5 T2 (.tup [.int (k : Int), nV c]) = H7 at s6 e6 ⊢
        refine ⟨rfl, _, rfl, _, rfl, _, _, rfl, rfl, Int.natCast_nonneg _, .inl ⟨_, rfl, _, _, rfl, rfl, (by show (0 : Int) < 2; decide), rfl, _, rfl, ?_⟩⟩
        rw [Int.zero_add, Int.toNat_natCast]
        have eq : decide (V.int (((i : Int) / 2 ^ k) % 2) = V.int 1) = i.testBit k := by
          have z := bit_of i k
          cases e : i.testBit k with
          | true =>
            rw [e, if_pos rfl] at z
            exact decide_eq_true (congrArg V.int z)
          | false =>
            rw [e, if_neg (by simp)] at z
            exact decide_eq_false fun h => by
              injection h with h
              omega
        show if decide (V.int (((i : Int) / 2 ^ k) % 2) = V.int 1) = true then _ else _
        rw [eq]
        have pl := pickN_len own i k
        cases eb : i.testBit k with
        | true =>
          rw [eb, if_pos rfl] at su
          refine iteT ⟨_, rfl, _, e6, by rw [List.length_map, sizeLine_eq]; omega, same_put s6 nT, ?_⟩
          rw [upd_same, su, List.map_append]
          rfl
        | false =>
          rw [eb, if_neg (by simp), List.append_nil] at su
          refine iteF ⟨s6, ?_⟩
          rw [su]
          exact e6
      rintro H5 ⟨s5, e5⟩
      rw [List.length_map] at e5
      have pl := pickN_len own i own.length
      have psub : ∀ c ∈ pickN own i own.length, c ∈ own := fun c hc => by
        obtain ⟨z, h1, _, e⟩ := mem_pickN.mp hc
        rw [← e, getD_some (List.getElem?_eq_getElem h1)]
        exact List.getElem_mem h1
      have step : ∀ n, n < i + 1 → n < i ∨ n = i := fun n h => by omega
      generalize hx : pickN own i own.length = x at e5 pl psub
      have s45 := s4.trans s5
      dsimp only [gName]
      refine st_eq (σ' := [some (.ref mt), some (.ref na), some (.ref t), some (nV b), some (.ref D), y5, some (.ref L), some (.int (0 + (i : Int))), some (.ref T), y9, y10, y11]) rfl ?_
      refine ⟨_, rfl, na, rfl, ⟨_, same_seqT s45 hS⟩, fun U nU => ?_⟩
      refine lc_tup (K := K) (a := na) (xs := ps.map V.ref) (fun j H6 => Same H5 H6 ∧ H6 U = some (.lst ((((ns.take j).filter fun p => decide (p.1 ∈ x)).map fun p => decide (p.2 ∈ x) || decide (p.2 ∈ l)).map V.bl)) ∧ (((ns.take j).filter fun p => decide (p.1 ∈ x)).map fun p => decide (p.2 ∈ x) || decide (p.2 ∈ l)).length ≤ j)
        ⟨same_upd nU, upd_same, Nat.zero_le _⟩ (fun j H6 _ z => same_seqT (s45.trans z.1) hS) ?_ ?_
      · rintro j y H6 ey ⟨s6, e6, l6⟩
        rw [List.getElem?_map] at ey
        cases ep : ps[j]? with
        | none => rw [ep] at ey; cases ey
        | some a' =>
          rw [ep] at ey
          cases ey
          have hj := (List.getElem?_eq_some_iff.mp ep).1
          rw [hpl] at hj
          have en : ns[j]? = some ns[j] := List.getElem?_eq_getElem hj
          generalize ns[j] = z at en
          have s46 := s45.trans s6
          have hr := same_seqT s46 (hps j a' z ep en)
          have e56 := s6 _ _ e5
          have su : (((ns.take (j + 1)).filter fun p => decide (p.1 ∈ x)).map fun p => decide (p.2 ∈ x) || decide (p.2 ∈ l)) = (((ns.take j).filter fun p => decide (p.1 ∈ x)).map fun p => decide (p.2 ∈ x) || decide (p.2 ∈ l)) ++ (if z.1 ∈ x then [decide (z.2 ∈ x) || decide (z.2 ∈ l)] else []) := by
            rw [take_one en, List.filter_append, List.map_append, List.filter_cons]
            by_cases y : z.1 ∈ x
            · rw [if_pos (decide_eq_true y), if_pos y]
              rfl
            · rw [if_neg (by simpa using y), if_neg y]
              rfl
          refine ⟨a', _, rfl, hr, rfl, _, _, rfl, _, [], rfl, rfl, ?_⟩
          refine ⟨rfl, _, rfl, _, rfl, T, _, rfl, .inl (.inl (.inl e56)), rfl, flatN x, _, rfl, ?_⟩
          show if inV (nV z.1) (x.map nV) = true then _ else _
          rw [inV_nat]
          refine ite_ok (fun hz => ?_) fun hz => ?_
          · rw [if_pos hz] at su
            have put : ∀ v : Bool, v = (decide (z.2 ∈ x) || decide (z.2 ∈ l)) → ∃ acc, H6 U = some (.lst acc) ∧ acc.length < sizeLine ∧ Same H5 (upd H6 U (.lst (acc ++ [.bl v]))) ∧
                upd H6 U (.lst (acc ++ [.bl v])) U = some (.lst ((((ns.take (j + 1)).filter fun p => decide (p.1 ∈ x)).map fun p => decide (p.2 ∈ x) || decide (p.2 ∈ l)).map V.bl)) ∧ (((ns.take (j + 1)).filter fun p => decide (p.1 ∈ x)).map fun p => decide (p.2 ∈ x) || decide (p.2 ∈ l)).length ≤ j + 1 := fun v ev => by
              refine ⟨_, e6, by rw [List.length_map, sizeLine_eq]; omega, same_put s6 nU, ?_, ?_⟩
              · rw [upd_same, su, List.map_append, ev]
                rfl
              · rw [su, List.length_append]
                exact Nat.succ_le_succ l6
            refine ⟨_, rfl, _, rfl, T, _, rfl, .inl (.inl (.inl e56)), rfl, flatN x, _, rfl, ?_⟩
            show if inV (nV z.2) (x.map nV) = true then _ else _
            rw [inV_nat]
            refine ite_ok (fun h2 => put true (by rw [decide_eq_true h2]; rfl)) fun h2 => ?_
            refine ⟨_, rfl, _, rfl, t, _, rfl, .inr (same_seqT s46 ht), rfl, flatN l, put _ ?_⟩
            show inV (nV z.2) (l.map nV) = _
            rw [inV_nat, decide_eq_false h2, Bool.false_or]
          · rw [if_neg hz, List.append_nil] at su
            rw [su]
            exact ⟨s6, e6, by omega⟩
      rintro H6 ⟨s6, e6, _⟩
      rw [List.length_map, hpl, List.take_length] at e6
      refine ⟨U, _, rfl, .inl (.inl e6), _, rfl, ?_⟩
      show if shutX ns l x = true then _ else _
      have s456 := s45.trans s6
      have e4' := (s5.trans s6) _ _ e4
      have tu6 := tu4.same (s5.trans s6)
      have eL6 := (s5.trans s6) _ _ eL4
      have e56 := s6 _ _ e5
      cases es : shutX ns l x with
      | true =>
        refine iteT ⟨_, rfl, .inl ⟨rfl, _, .inl (.inl eL6)⟩, _, rfl, .inl ⟨T, _, rfl, .inl (.inl e56), fun t2 nt2 => ?_⟩⟩
        have s7 := same_upd (o := .tup (x.map nV)) nt2
        obtain ⟨acc, e9, l9, tu9⟩ := (tu6.same s7).snoc (r := t2) (m := x) (.inl (.inl upd_same)) (by omega)
        refine ⟨L, _, _, rfl, rfl, e9, l9, M ++ [x], _, _, _, _, _, _, rfl, same_put (s456.trans s7) nL0, by rw [upd_ne nDL]; exact s7 _ _ e4', tu9, by rw [List.length_append]; exact Nat.succ_le_succ lM, fun y hy => ?_, fun n hn2 hs => ?_⟩
        · rcases List.mem_append.mp hy with h | h
          · exact inM y h
          · rw [List.mem_singleton.mp h]
            exact ⟨psub, es, by omega⟩
        · rcases step n hn2 with h | h
          · exact List.mem_append.mpr (.inl (alM n h hs))
          · rw [h, hx]
            exact List.mem_append.mpr (.inr (List.mem_singleton.mpr rfl))
      | false =>
        refine iteF ⟨M, _, _, _, _, _, _, rfl, s456, e4', tu6, by omega, inM, fun n hn2 hs => ?_⟩
        rcases step n hn2 with h | h
        · exact alM n h hs
        · rw [h, hx, es] at hs
          cases hs
    · rintro σ H4 ⟨M, y5, y7, y8, y9, y10, y11, rfl, s4, e4, tu4, lM, inM, alM⟩
      refine ⟨_, rfl, q M L H4 s4 nL0 tu4 (by omega) (fun r br => ⟨?_, fun x hx c hc => br.great cl (fun z hz => w0.sub z ((inM x hx).1 z hz)) (inM x hx).2.1 c hc⟩) fun x hx => (inM x hx).2.2⟩
      have er := pickN_num w0.asc br.1 fun c hc => mo c ((br.2 c).mp hc).1 ((br.2 c).mp hc).2.1 ((br.2 c).mp hc).2.2
      have z := alM (numOf own r) (numOf_lt own r)
      rw [er] at z
      exact z br.shut
end
end Rip

/-! The law of standings asked amiss: things, standings, rows; its words. -/
namespace Rip
open PySem PySem.Spec PyProof.Rows L2 RipS
theorem fn_or {P : Program} {w : World} {K : PySem.W.Frag} {mg : Str → Option Value} {base : Heap} {cx : CXT} {k : Nat} {f : Addr} {fd : FuncData} {ps : List Str} {a b : Sp} (x : FnOk P w K mg base cx k f fd ps a) (y : FnOk P w K mg base cx k f fd ps b) :
    FnOk P w K mg base cx k f fd ps (fun vs H Q E => a vs H Q E ∨ b vs H Q E) :=
  ⟨fun vs H Q E h => h.elim (x.len vs H Q E) (y.len vs H Q E), fun A outer s H args us vs Q E hr e0 hb r h => h.elim (x.run A outer s H args us vs Q E hr e0 hb r) (y.run A outer s H args us vs Q E hr e0 hb r)⟩
theorem tabs_put {T : List (Addr × Str)} {H : Hp} {D : Addr} {xs : List V} {o : HO} (e : H D = some (.lst xs)) (t : LamX.Tabs T H) : LamX.Tabs T (upd H D o) := fun p hp => by
  obtain ⟨ps, h1, h2, h3⟩ := t p hp
  refine ⟨ps, by rw [upd_ne (ne_of h1 e fun z => by cases z)]; exact h1, h2, fun pos cv hc => ?_⟩
  obtain ⟨c, e1, e2⟩ := h3 pos cv hc
  exact ⟨c, e1, by rw [upd_ne (ne_of e2 e fun z => by unfold LamX.CodeO at z; cases z)]; exact e2⟩
theorem scal_nat {l : List Nat} {x : V} (h : x ∈ l.map nV) : scal x = true := by
  obtain ⟨c, _, rfl⟩ := List.mem_map.mp h
  rfl
theorem flat_nat (bl : List Nat) : (bl.map nV).all flatV = true := by
  rw [List.all_map]
  exact List.all_eq_true.mpr fun _ _ => rfl
theorem mem_cut {xs : List V} {lo hi : Option Int} {x : V} (h : x ∈ cutV xs lo hi) : x ∈ xs := by
  unfold cutV at h
  exact List.mem_of_mem_drop (List.mem_of_mem_take h)
theorem nat_inj : ∀ {l m : List Nat}, l.map nV = m.map nV → l = m := by
  intro l
  induction l with
  | nil => exact fun {m} h => by cases m with
    | nil => rfl
    | cons a r => cases h
  | cons a r ih => exact fun {m} h => by cases m with
    | nil => cases h
    | cons b s =>
      rw [List.map_cons, List.map_cons] at h
      injection h with h1 h2
      injection h1 with h1
      rw [ih h2, Int.ofNat.inj h1]
theorem isblk_nat {bl : List Nat} {v : V} {x : Nat} (e : v = nV x) (h : x ∈ bl) : isBlk bl v = true := by
  subst e
  unfold isBlk
  rw [inV_nat, decide_eq_true h, Bool.and_true]
  show decide ((0 : Int) ≤ (x : Int)) = true
  exact decide_eq_true (Int.natCast_nonneg x)
/-- no tuple, or a short one of things -/
inductive RThing (K : PySem.W.Frag) (C b g : Addr) (H : Hp) : V → Prop
  | sc {v : V} (h : scal v = true) : RThing K C b g H v
  | lst {a : Addr} {xs : List V} (h : H a = some (.lst xs)) (h1 : a ≠ b) (h2 : a ≠ g) : RThing K C b g H (.ref a)
  | dct {a : Addr} {kvs : List (Key × V)} (h : H a = some (.dK kvs)) : RThing K C b g H (.ref a)
  | ins {a dx : Addr} {fs : List (Str × V)} (h : H a = some (.ins C dx fs)) : RThing K C b g H (.ref a)
  | many {a : Addr} {xs : List V} (h : SqT K H a xs) (hx : ∀ x ∈ xs, Thing K C b g H x) (hl : xs.length ≤ 1000) : RThing K C b g H (.ref a)
theorem RThing.kp {K : PySem.W.Frag} {C b g : Addr} {H H' : Hp} {v : V} (t : RThing K C b g H v) (B : BagAt H b g) (k : Kp b g H H') : RThing K C b g H' v := by
  cases t with
  | sc h => exact .sc h
  | lst h h1 h2 => exact .lst (k _ _ h h1 h2 fun ps e => by cases e) h1 h2
  | dct h => exact .dct (k _ _ h (B.off h fun xs e => by cases e).1 (B.off h fun xs e => by cases e).2 fun ps e => by cases e)
  | ins h => exact .ins (k _ _ h (B.off h fun xs e => by cases e).1 (B.off h fun xs e => by cases e).2 fun ps e => by cases e)
  | many h hx hl => exact .many (seqT_kp B k h) (fun x m => (hx x m).kp B k) hl
/-- both a thing and a row's thing -/
def OddT (K : PySem.W.Frag) (C b g : Addr) (H : Hp) (v : V) : Prop := Thing K C b g H v ∧ RThing K C b g H v
theorem OddT.kp {K : PySem.W.Frag} {C b g : Addr} {H H' : Hp} {v : V} (t : OddT K C b g H v) (B : BagAt H b g) (k : Kp b g H H') : OddT K C b g H' v := ⟨t.1.kp B k, t.2.kp B k⟩
theorem OddT.sc {K : PySem.W.Frag} {C b g : Addr} {H : Hp} {v : V} (h : scal v = true) : OddT K C b g H v := ⟨.sc h, .sc h⟩
theorem OddT.lst {K : PySem.W.Frag} {C b g a : Addr} {H : Hp} {xs : List V} (h : H a = some (.lst xs)) (h1 : a ≠ b) (h2 : a ≠ g) : OddT K C b g H (.ref a) := ⟨.lst h h1 h2, .lst h h1 h2⟩
theorem OddT.dct {K : PySem.W.Frag} {C b g a : Addr} {H : Hp} {kvs : List (Key × V)} (_ : BagAt H b g) (h : H a = some (.dK kvs)) : OddT K C b g H (.ref a) := ⟨.dct h, .dct h⟩
theorem OddT.ins {K : PySem.W.Frag} {C b g a dx : Addr} {H : Hp} {fs : List (Str × V)} (_ : BagAt H b g) (_ : BkI K C) (h : H a = some (.ins C dx fs)) : OddT K C b g H (.ref a) := ⟨.ins h, .ins h⟩
theorem OddT.tup {K : PySem.W.Frag} {C b g a : Addr} {H : Hp} {xs : List V} (h : SqT K H a xs) (hx : ∀ x ∈ xs, scal x = true) (hl : xs.length ≤ 1000) : OddT K C b g H (.ref a) :=
  ⟨.tup h hx (by omega), .many h (fun x m => .sc (hx x m)) hl⟩
theorem OddT.lsT {K : PySem.W.Frag} {C b g a : Addr} {H : Hp} {l : List Nat} (h : SqT K H a (l.map nV)) (hl : l.length ≤ 1000) : OddT K C b g H (.ref a) := .tup h (fun _ m => scal_nat m) (by rw [List.length_map]; exact hl)
theorem Thing.put {K : PySem.W.Frag} {C b g D : Addr} {H : Hp} {v : V} {xs ys : List V} (t : Thing K C b g H v) (e : H D = some (.lst xs)) : Thing K C b g (upd H D (.lst ys)) v := by
  cases t with
  | sc h => exact .sc h
  | lst h h1 h2 =>
    rename_i a zs
    by_cases z : a = D
    · subst z
      exact .lst upd_same h1 h2
    · exact .lst (by rw [upd_ne z]; exact h) h1 h2
  | dct h => exact .dct (by rw [upd_ne (ne_of h e fun z => by cases z)]; exact h)
  | tup h hx hl => exact .tup (seqT_off e (fun _ z => by cases z) (fun _ _ z => by cases z) h) hx hl
  | ins h => exact .ins (by rw [upd_ne (ne_of h e fun z => by cases z)]; exact h)
theorem RThing.put {K : PySem.W.Frag} {C b g D : Addr} {H : Hp} {v : V} {xs ys : List V} (t : RThing K C b g H v) (e : H D = some (.lst xs)) : RThing K C b g (upd H D (.lst ys)) v := by
  cases t with
  | sc h => exact .sc h
  | lst h h1 h2 =>
    rename_i a zs
    by_cases z : a = D
    · subst z
      exact .lst upd_same h1 h2
    · exact .lst (by rw [upd_ne z]; exact h) h1 h2
  | dct h => exact .dct (by rw [upd_ne (ne_of h e fun z => by cases z)]; exact h)
  | ins h => exact .ins (by rw [upd_ne (ne_of h e fun z => by cases z)]; exact h)
  | many h hx hl => exact .many (seqT_off e (fun _ z => by cases z) (fun _ _ z => by cases z) h) (fun x m => (hx x m).put e) hl
/-- what is asked of such a row, the same at each heap -/
theorem RThing.askX {K : PySem.W.Frag} {C b g : Addr} {H : Hp} {v : V} (t : RThing K C b g H v) (I : BkI K C) (B : BagAt H b g) (bl : List Nat) :
    ∃ (u : V) (xs : List V), (u = .non ∨ ∃ k : Int, u = .int k) ∧ xs.length ≤ 1000 ∧ ∀ H', Kp b g H H' → ∀ q : V → List V → Prop, q u xs → RowAsk K bl v H' q := by
  have no : (∀ H', Kp b g H H' → ObT K H' v false) → ∃ (u : V) (xs : List V), (u = .non ∨ ∃ k : Int, u = .int k) ∧ xs.length ≤ 1000 ∧ ∀ H', Kp b g H H' → ∀ q : V → List V → Prop, q u xs → RowAsk K bl v H' q := fun h =>
    ⟨.int (-1), [], .inr ⟨_, rfl⟩, Nat.zero_le _, fun H' k q hq => ⟨false, fun H2 s => h H2 (k.trans (Kp.same s)), fun _ => hq, fun z => nomatch z⟩⟩
  cases t with
  | sc h => exact no fun _ _ => scal_obt h
  | lst h h1 h2 => exact no fun H' k => ⟨_, .base (.lst (k _ _ h h1 h2 fun ps e => by cases e)), kit_ty (show kitB "list" "tuple" = some false by decide +kernel)⟩
  | dct h => exact no fun H' k => ⟨_, .base (.dK (k _ _ h (B.off h fun xs e => by cases e).1 (B.off h fun xs e => by cases e).2 fun ps e => by cases e)), kit_ty (show kitB "dict" "tuple" = some false by decide +kernel)⟩
  | ins h => exact no fun H' k => ⟨_, I.ty _ _ _ _ (k _ _ h (B.off h fun xs e => by cases e).1 (B.off h fun xs e => by cases e).2 fun ps e => by cases e), I.t⟩
  | many h hx hl =>
    rename_i a xs
    exact ⟨wwGo bl 0 xs, xs, wwGo_or xs 0, hl, fun H' k q hq => ⟨true, fun H2 s => ⟨_, tyx_tup (same_seqT s (seqT_kp B k h)), kit_ty (by decide +kernel)⟩, (fun z => nomatch z), fun _ => ⟨a, xs, rfl, seqT_kp B k h, fun x m H2 s => ((hx x m).kp B (k.trans (Kp.same s))).ob I, by omega, hq⟩⟩⟩
theorem RThing.ask {K : PySem.W.Frag} {C b g : Addr} {H : Hp} {v : V} (t : RThing K C b g H v) (I : BkI K C) (B : BagAt H b g) (bl : List Nat) :
    ∃ u, (u = .non ∨ ∃ k : Int, u = .int k) ∧ ∀ H', Kp b g H H' → ∀ q : V → List V → Prop, (∀ xs, q u xs) → RowAsk K bl v H' q := by
  obtain ⟨u, xs, hu, _, h⟩ := t.askX I B bl
  exact ⟨u, hu, fun H' k q hq => h H' k q (hq xs)⟩
theorem Thing.kind {K : PySem.W.Frag} {C b g : Addr} {H : Hp} {v : V} (t : Thing K C b g H v) (I : BkI K C) (B : BagAt H b g) :
    (∀ H', Kp b g H H' → ObT K H' v false) ∨ ∃ a xs, v = .ref a ∧ SqT K H a xs ∧ (∀ x ∈ xs, scal x = true) ∧ xs.length ≤ 900000 := by
  cases t with
  | sc h => exact .inl fun _ _ => scal_obt h
  | lst h h1 h2 => exact .inl fun H' k => ⟨_, .base (.lst (k _ _ h h1 h2 fun ps e => by cases e)), kit_ty (show kitB "list" "tuple" = some false by decide +kernel)⟩
  | dct h => exact .inl fun H' k => ⟨_, .base (.dK (k _ _ h (B.off h fun xs e => by cases e).1 (B.off h fun xs e => by cases e).2 fun ps e => by cases e)), kit_ty (show kitB "dict" "tuple" = some false by decide +kernel)⟩
  | tup h hx hl => exact .inr ⟨_, _, rfl, h, hx, hl⟩
  | ins h => exact .inl fun H' k => ⟨_, I.ty _ _ _ _ (k _ _ h (B.off h fun xs e => by cases e).1 (B.off h fun xs e => by cases e).2 fun ps e => by cases e), I.t⟩
/-- whether a thing is a standing, for the law and for the program alike -/
theorem Thing.stand {K : PySem.W.Frag} {C CS b g : Addr} {H : Hp} {v : V} {bl : List Nat} {ns : List (Nat × Nat)} {f : List Nat} (t : Thing K C b g H v) (I : BkI K C) (B : BagAt H b g) (F : FarsOf bl.length ns f) :
    ∃ ok : Bool, (∀ H', Kp b g H H' → ∀ Q : VK, (∀ H2, Same H' H2 → Q (.bl ok) H2) → ∃ tp, ObT K H' v tp ∧ (tp = false → Q (.bl false) H') ∧
        (tp = true → ∃ (t : Addr) (xs : List V), v = .ref t ∧ SqT K H' t xs ∧ xs.length ≤ 900000 ∧ (∀ x ∈ xs, ∀ H2, Same H' H2 → Ob K H2 x) ∧ (lotGo bl.length (-1) xs = false → ∀ H2, Same H' H2 → Q (.bl false) H2) ∧
          ∀ l : List Nat, xs = l.map nV → l.Pairwise (· < ·) → (∀ c ∈ l, c < bl.length) → ∀ H2, Same H' H2 → Q (.bl (shutB ns l)) H2)) ∧
      ∀ H', Kp b g H H' → ∀ (E : XK) (q : List Nat → Hp → Prop), (ok = false → ∀ H2, Same H' H2 → E (.ref CS) none H2) → (ok = true → ∀ l H2, Same H' H2 → q l H2) → StAsk K C CS v bl f H' E q := by
  rcases t.kind I B with h | ⟨a, xs, rfl, hS, hx, hl⟩
  · exact ⟨false, fun H' k Q hq => ⟨false, h H' k, fun _ => hq H' (Same.refl H'), fun z => nomatch z⟩, fun H' k E q hE _ => ⟨false, h H' k, fun _ => hE rfl H' (Same.refl H'), fun z => nomatch z⟩⟩
  · have ty : ∀ H', Kp b g H H' → ObT K H' (.ref a) true := fun H' k => ⟨_, tyx_tup (seqT_kp B k hS), kit_ty (by decide +kernel)⟩
    cases e : lotGo bl.length (-1) xs with
    | false =>
      have no : ∀ l : List Nat, xs = l.map nV → l.Pairwise (· < ·) → (∀ c ∈ l, c < bl.length) → False := fun l ex asc hin => by
        subst ex
        rw [lotGo_map bl.length l (-1) asc fun i hi => ⟨hin i hi, by omega⟩] at e
        cases e
      exact ⟨false, fun H' k Q hq => ⟨true, ty H' k, (fun z => nomatch z), fun _ => ⟨a, xs, rfl, seqT_kp B k hS, hl, fun x m _ _ => scal_ob (hx x m), fun _ H2 s => hq H2 s, fun l ex asc hin => absurd (no l ex asc hin) id⟩⟩,
        fun H' k E q hE _ => ⟨true, ty H' k, (fun z => nomatch z), fun _ => ⟨a, xs, rfl, seqT_kp B k hS, fun x m => scal_ob (hx x m), fun _ => hE rfl H' (Same.refl H'), fun l ex asc hin => absurd (no l ex asc hin) id⟩⟩⟩
    | true =>
      obtain ⟨l, rfl, asc, hin0⟩ := lotGo_nat bl.length xs (-1) e
      have hin : ∀ c ∈ l, c < bl.length := fun c m => (hin0 c m).1
      refine ⟨shutB ns l, fun H' k Q hq => ⟨true, ty H' k, (fun z => nomatch z), fun _ => ⟨a, _, rfl, seqT_kp B k hS, hl, fun x m _ _ => scal_ob (hx x m), fun z => (by rw [e] at z; cases z), fun m em _ _ H2 s => ?_⟩⟩,
        fun H' k E q hE hq => ⟨true, ty H' k, (fun z => nomatch z), fun _ => ⟨a, _, rfl, seqT_kp B k hS, fun x m => scal_ob (hx x m), fun z => (by rw [e] at z; cases z), fun m em _ _ H2 s => ?_⟩⟩⟩
      · rw [← nat_inj em]
        exact hq H2 s
      · rw [← nat_inj em, closed_shut F hin]
        exact ⟨fun z => hE z H2 s, fun z => hq z l H2 s⟩
end Rip

/-! Equality of tuples of whole numbers; a right standing asked for. -/
namespace Rip
open PySem PySem.Spec PyProof.Rows L2 RipS
theorem pass1 {X : Cx} : Passes (L2.CX X.prog X.w) X E0 := fun _ _ _ _ _ _ _ h => by
  obtain ⟨_, _, _, _, _, _, _, _, _, _, _, _, z⟩ := h
  exact z.elim
theorem eqvAll_nats : ∀ l m : List Nat, PyData.eqvAll (l.map fun x : Nat => PyData.int (x : Int)) (m.map fun x : Nat => PyData.int (x : Int)) = decide (l = m)
  | [], [] => rfl
  | [], _ :: _ => rfl
  | _ :: _, [] => rfl
  | x :: l, y :: m => by
    have ih := eqvAll_nats l m
    rw [List.map_cons, List.map_cons]
    show (decide ((x : Int) = (y : Int)) && PyData.eqvAll (l.map fun x : Nat => PyData.int (x : Int)) (m.map fun x : Nat => PyData.int (x : Int))) = _
    rw [ih]
    by_cases h : x = y
    · subst h
      rw [decide_eq_true rfl, Bool.true_and]
      exact decide_eq_decide.mpr ⟨fun h => by rw [h], fun h => by injection h⟩
    · rw [decide_eq_false (show ¬ (x : Int) = (y : Int) by omega), Bool.false_and]
      exact (decide_eq_false fun e => h (by injection e)).symm
theorem eqv_natsT (l m : List Nat) : PyData.eqv (.tuple (l.map fun x : Nat => PyData.int (x : Int))) (.tuple (m.map fun x : Nat => PyData.int (x : Int))) = decide (l = m) := eqvAll_nats l m
/-- a right standing, asked for -/
theorem stand_ok {K : PySem.W.Frag} {C CS : Addr} {t : Addr} {bl : List Nat} {ns : List (Nat × Nat)} {f l : List Nat} {H : Hp} {E : XK} {q : List Nat → Hp → Prop} (F : FarsOf bl.length ns f) (h : SqT K H t (l.map nV)) (asc : l.Pairwise (· < ·)) (hin : ∀ c ∈ l, c < bl.length) (cl : ClosedL ns l)
    (hq : ∀ H', Same H H' → q l H') : StAsk K C CS (.ref t) bl f H E q := by
  refine ⟨true, ⟨_, tyx_tup h, kit_ty (by decide +kernel)⟩, (fun z => nomatch z), fun _ => ⟨t, _, rfl, h, fun x m => scal_ob (scal_nat m), fun z => ?_, fun m em _ _ H' s => ?_⟩⟩
  · rw [lotGo_map bl.length l (-1) asc fun i hi => ⟨hin i hi, by omega⟩] at z
    cases z
  · rw [← nat_inj em]
    exact ⟨fun z => (by rw [(closedB_iff F hin).mpr cl] at z; cases z), fun _ => hq H' s⟩
end Rip

/-! Books whose changes need one another in a row: each one the one ahead. -/
namespace Rip
open PySem PySem.Spec PyProof.Rows L2 RipS
def rowNs (n : Nat) : List (Nat × Nat) := (List.range (n - 1)).map fun i => (i + 1, i)
theorem mem_rowNs {n c o : Nat} : (c, o) ∈ rowNs n ↔ c = o + 1 ∧ c < n := by
  unfold rowNs
  rw [List.mem_map]
  constructor
  · rintro ⟨i, hi, e⟩
    have := List.mem_range.mp hi
    injection e with e1 e2
    omega
  · rintro ⟨rfl, h⟩
    exact ⟨o, List.mem_range.mpr (by omega), rfl⟩
theorem far_row {n : Nat} : ∀ {c o : Nat}, Far (rowNs n) c o ↔ o < c ∧ c < n := by
  intro c o
  constructor
  · intro f
    induction f with
    | one h =>
      have := mem_rowNs.mp h
      omega
    | step h _ ih =>
      have := mem_rowNs.mp h
      omega
  · rintro ⟨h1, h2⟩
    obtain ⟨d, rfl⟩ : ∃ d, c = o + 1 + d := ⟨c - o - 1, by omega⟩
    clear h1
    induction d with
    | zero => exact .one (mem_rowNs.mpr ⟨rfl, h2⟩)
    | succ d ih => exact .step (m := o + 1 + d) (mem_rowNs.mpr ⟨by omega, h2⟩) (ih (by omega))
theorem rowNs_len (n : Nat) : (rowNs n).length = n - 1 := by
  unfold rowNs
  rw [List.length_map, List.length_range]
theorem rowNs_at {n i : Nat} (h : i < n - 1) : (rowNs n)[i]? = some (i + 1, i) := by
  unfold rowNs
  rw [List.getElem?_map, List.getElem?_range h]
  rfl
theorem rowNs_right {bl : List Nat} (hl : bl.length ≤ 200) (hb : ∀ b ∈ bl, b < 50) : Right bl (rowNs bl.length) where
  few := hl
  blk := hb
  nfew := by rw [rowNs_len]; omega
  asc := by
    unfold rowNs
    exact List.pairwise_map.mpr (List.pairwise_lt_range.imp fun h => .inl (by show _ + 1 < _ + 1; omega))
  inn := fun p hp => by
    have := mem_rowNs.mp (show (p.1, p.2) ∈ rowNs bl.length from hp)
    omega
theorem rowNs_no (n c : Nat) : ¬ Far (rowNs n) c c := fun f => by
  have := far_row.mp f
  omega
theorem rowNs_closed (n d : Nat) : ClosedL (rowNs n) (List.range d) := fun c hc o fo => by
  have := far_row.mp fo
  rw [List.mem_range] at hc ⊢
  omega
/-- of a row of changes, neighbours in several blocks: just the next one comes -/
theorem row_next {bl : List Nat} {d : Nat} (hd : d < bl.length) (ne : ∀ i, i + 1 < bl.length → bl[i]? ≠ bl[i + 1]?) : LBr bl (rowNs bl.length) (List.range d) bl[d] [d] := by
  refine ⟨List.pairwise_singleton .., fun c => ?_⟩
  have ed : bl[d]? = some bl[d] := List.getElem?_eq_getElem hd
  rw [List.mem_singleton]
  constructor
  · rintro rfl
    exact ⟨ed, by rw [List.mem_range]; omega, fun o fo => .inl (List.mem_range.mpr (far_row.mp fo).1)⟩
  · rintro ⟨h1, h2, h3⟩
    rw [List.mem_range] at h2
    by_cases e : c = d
    · exact e
    have hc := (List.getElem?_eq_some_iff.mp h1).1
    have n1 : bl[d + 1]? = some bl[d] := by
      by_cases e2 : c = d + 1
      · rw [← e2]; exact h1
      · rcases h3 (d + 1) (far_row.mpr ⟨by omega, hc⟩) with h | h
        · rw [List.mem_range] at h; omega
        · exact h
    exact absurd (ed.trans n1.symm) (ne d (by omega))
/-- and by no other block anything -/
theorem row_none {bl : List Nat} {d b : Nat} (hd : d < bl.length) (hb : b ≠ bl[d]) : LBr bl (rowNs bl.length) (List.range d) b [] := by
  refine ⟨.nil, fun c => ⟨(fun h => nomatch h), fun ⟨h1, h2, h3⟩ => ?_⟩⟩
  rw [List.mem_range] at h2
  have hc := (List.getElem?_eq_some_iff.mp h1).1
  have ed : bl[d]? = some bl[d] := List.getElem?_eq_getElem hd
  have nd : bl[d]? = some b := by
    by_cases e : c = d
    · rw [← e]; exact h1
    · rcases h3 d (far_row.mpr ⟨by omega, hc⟩) with h | h
      · rw [List.mem_range] at h; omega
      · exact h
  rw [ed] at nd
  injection nd with nd
  exact absurd nd.symm hb
/-- in one block all that are not there come -/
theorem row_one {n d b : Nat} : LBr (List.replicate n b) (rowNs (List.replicate n b).length) (List.range d) b ((List.range n).filter fun c => decide (d ≤ c)) := by
  refine ⟨List.pairwise_lt_range.filter _, fun c => ?_⟩
  rw [List.length_replicate, List.mem_filter, List.mem_range, decide_eq_true_eq, List.mem_range]
  constructor
  · rintro ⟨h1, h2⟩
    exact ⟨by rw [List.getElem?_replicate, if_pos h1], by omega, fun o fo => .inr (by rw [List.getElem?_replicate, if_pos (by have := far_row.mp fo; omega)])⟩
  · rintro ⟨h1, h2, _⟩
    have := (List.getElem?_eq_some_iff.mp h1).1
    rw [List.length_replicate] at this
    exact ⟨this, by omega⟩
theorem row_rest {n d b : Nat} : LBr (List.replicate n b) (rowNs (List.replicate n b).length) (List.range d) b ((List.range (n - d)).map fun i => d + i) := by
  have z := row_one (n := n) (d := d) (b := b)
  refine ⟨List.pairwise_map.mpr (List.pairwise_lt_range.imp fun {i j} h => by show d + i < d + j; omega), fun c => ?_⟩
  rw [← z.2, List.mem_map, List.mem_filter, List.mem_range, decide_eq_true_eq]
  constructor
  · rintro ⟨i, hi, e⟩
    have := List.mem_range.mp hi
    have e : d + i = c := e
    omega
  · rintro ⟨h1, h2⟩
    exact ⟨c - d, List.mem_range.mpr (by omega), by show d + (c - d) = c; omega⟩
theorem row_full {bl : List Nat} {b : Nat} : LBr bl (rowNs bl.length) (List.range bl.length) b [] := by
  refine ⟨.nil, fun c => ⟨(fun h => nomatch h), fun ⟨h1, h2, _⟩ => ?_⟩⟩
  have := (List.getElem?_eq_some_iff.mp h1).1
  rw [List.mem_range] at h2
  exact absurd this h2
theorem br_zero {bl : List Nat} {ns : List (Nat × Nat)} {f l : List Nat} {b : Nat} (F : FarsOf bl.length ns f) (h : LBr bl ns l b []) : brOf f (blkM bl b bl.length) (maskOf l) = 0 := by
  have z := LBr.lots (l := l) (b := b) F
  have e := h.uniq z
  by_cases y : brOf f (blkM bl b bl.length) (maskOf l) = 0
  · exact y
  · obtain ⟨c, hc⟩ := Nat.exists_testBit_of_ne_zero y
    have := (mem_lotOf _ c).mpr hc
    rw [← e] at this
    cases this
theorem br_pos {bl : List Nat} {ns : List (Nat × Nat)} {f l r : List Nat} {b : Nat} (F : FarsOf bl.length ns f) (h : LBr bl ns l b r) (hr : r ≠ []) : brOf f (blkM bl b bl.length) (maskOf l) ≠ 0 := fun e => by
  have z := LBr.lots (l := l) (b := b) F
  rw [e, lotOf_zero] at z
  exact hr (h.uniq z)
theorem ripe_one {bl : List Nat} {ns : List (Nat × Nat)} {f l r ks : List Nat} {b : Nat} (F : FarsOf bl.length ns f) (hb : b ∈ bl) (h : LBr bl ns l b r) (hr : r ≠ []) (no : ∀ x, x ≠ b → LBr bl ns l x []) (asc : ks.Pairwise (· < ·)) (mem : ∀ x, x ∈ ks ↔ x ∈ bl) : ripeKs f bl ks (maskOf l) = [b] := by
  unfold ripeKs
  refine asc_same (asc.filter _) (List.pairwise_singleton ..) fun x => ?_
  rw [List.mem_filter, List.mem_singleton, decide_eq_true_eq, mem]
  constructor
  · rintro ⟨_, h2⟩
    by_cases y : x = b
    · exact y
    · exact absurd (br_zero F (no x y)) h2
  · rintro rfl
    exact ⟨hb, br_pos F h hr⟩
theorem ripe_none {bl : List Nat} {ns : List (Nat × Nat)} {f l ks : List Nat} (F : FarsOf bl.length ns f) (no : ∀ x, LBr bl ns l x []) : ripeKs f bl ks (maskOf l) = [] := by
  unfold ripeKs
  exact List.filter_eq_nil_iff.mpr fun x _ => by rw [br_zero F (no x)]; simp
theorem rep_flat (n c : Nat) : (List.replicate n [V.int (c : Int)]).flatten = (List.replicate n c).map nV := by
  induction n with
  | zero => rfl
  | succ n ih =>
    rw [List.replicate_succ, List.replicate_succ, List.flatten_cons, ih]
    rfl
theorem rgV_two (d n : Nat) : rgV (d : Int) (n : Int) = ((List.range (n - d)).map fun i => d + i).map nV := by
  unfold rgV
  rw [List.map_map, show ((n : Int) - (d : Int)).toNat = n - d by omega]
  exact List.map_congr_left fun i _ => congrArg V.int (show (d : Int) + (i : Int) = ((d + i : Nat) : Int) by omega)
end Rip

/-! The law's great books. -/
namespace Rip
open PySem PySem.Spec PyProof.Rows L2 RipS
section
variable {P : Program} {w : World} {K : PySem.W.Frag} {mg : Str → Option Value} {base : Heap}
abbrev s_lgr : Stmt := top 47
def spLgr : Sp := fun vs H Q _ => ∃ (b g : Addr), vs = [.ref b] ∧ BagAt H b g ∧ ∀ H', BagAt H' b g → SameB b g H H' → Q (.bl true) H'
abbrev scGrN : List Str := ["_law_bag_here", "_law_many", "_law_some_here", "_law_blocks", "_law_change", "_law_needs_here", "_law_book", "_law_done", "_law_there", "_law_plain"]
theorem scGr : FnScope scGrN ["_law_bag_here"] (defScope s_lgr) := ⟨rfl, rfl, rfl, by decide +kernel, rfl, by decide +kernel, by decide +kernel⟩
theorem ok_lgr {f C CS CB fI fC fF fB1 fN fD1 : Addr} {fd fdI fdC fdF fdB1 fdN fdD1 : FuncData} (F : Fun K "_law_great_right" "_law_great_right" s_lgr f fd) (B : Blt mg) (m : MkB K mg C fI fC fF fB1 fN fD1 fdI fdC fdF fdB1 fdN fdD1)
    (hP : Has P w K mg base CX0 1 "_law_pick" ["_law_bag_here", "_law_many"] spPick) (hCo : Has P w K mg base (L2.CX P w) 7 "comes" ["book", "standing", "block"] (spComes K C CS CB)) (hRi : Has P w K mg base (L2.CX P w) 7 "ripe" ["book", "standing"] (spRipe K C CS)) :
    FnOk P w K mg base CX0 8 f fd ["_law_bag_here"] spLgr := by
  obtain ⟨fP, fdP, GP, kP, bP, gP⟩ := hP
  obtain ⟨fCo, fdCo, GCo, kCo, bCo, gCo⟩ := hCo
  obtain ⟨fRi, fdRi, GRi, kRi, bRi, gRi⟩ := hRi
  have GN : FnOk P w K mg base CX0 6 fI fdI ["self", "blocks", "needs"] (spInitB K C) := m.init
  refine F.ok scGr (fun vs H Q E h => ?_) (fun cdv A outer s H vs Q E hr h => ?_)
  · obtain ⟨b, g, rfl, _⟩ := h
    rfl
  · obtain ⟨b, g, rfl, BA, q⟩ := h
    refine ⟨_,
      (pss_cons (ps_asg (pe_tup (pa_cons (pe_op op_add pe_int (pe_call GP (hr.mono (by decide)) (by rfl) gP kP bP .nil pass0 (pa_cons (pv 0) (pa_cons pe_int pa_nil)))) (pa_cons (pe_op op_add pe_int (pe_call GP (hr.mono (by decide)) (by rfl) gP kP bP .nil pass0 (pa_cons (pv 0) (pa_cons pe_int pa_nil)))) pa_nil))) (pg_tup rfl (pgs_cons (pg_name (i := 1) scGr.nd rfl (.inl rfl)) (pgs_cons (pg_name (i := 2) scGr.nd rfl (.inr rfl)) pgs_nil))))
      (pss_cons (ps_set (i := 3) scGr.nd rfl (.inl rfl) (pe_tupleOf (by rfl) B.tuple (pe_lc (own := [("_law_change", 4)]) (g := gName 4) (tt := tYes) (te := (tOp (rI (fun _ j => 0 < j) fun i j => .int (i % j)) (tCB (fun xs H Q => (∃ i, xs = [.int i] ∧ Q (.int i) H) ∨ ∃ k, xs = [.bl k] ∧ Q (.int (if k then 1 else 0)) H) (tCons (tVar 4) tNil)) (tVar 2))) rfl scGr.nd (pi_range1 rfl B.range (pa_cons (pv 1) pa_nil)) (blkOk_by (own := [("_law_change", 4)]) (N := scGrN) (sc := defScope s_lgr) (by decide +kernel)) (fun _ _ _ _ _ => (pg_name (i := 4) scGr.nd rfl (.inl rfl))) (fun _ _ _ _ _ => pts_nil) (fun _ _ _ _ _ => (pe_op op_mod (pe_callTy call_int1 (by rfl) B.int PyProof.Rows.boot_int (pa_cons (pv 4) pa_nil)) (pv 2))))))
      (pss_cons (ps_set (i := 5) scGr.nd rfl (.inl rfl) (pe_tupleOf (by rfl) B.tuple (pe_lc (own := [("_law_change", 4)]) (g := gName 4) (tt := tYes) (te := tTup (tCons (tVar 4) (tCons (tOp (rI0 fun i j => .int (i - j)) (tVar 4) (tC (.int 1))) tNil))) rfl scGr.nd (pi_range2 rfl B.range (pa_cons pe_int (pa_cons (pv 1) pa_nil))) (blkOk_by (own := [("_law_change", 4)]) (N := scGrN) (sc := defScope s_lgr) (by decide +kernel)) (fun _ _ _ _ _ => (pg_name (i := 4) scGr.nd rfl (.inl rfl))) (fun _ _ _ _ _ => pts_nil) (fun _ _ _ _ _ => (pe_tup (pa_cons (pv 4) (pa_cons (pe_op op_sub (pv 4) pe_int) pa_nil)))))))
      (pss_cons (ps_par (i := 6) (j := 7) rfl scGr.nd rfl rfl (by decide) rfl rfl (pa_cons (pe_make m.M GN (hr.mono (by decide)) (by rfl) m.T.g m.bI .nil pass0 (pa_cons (pv 3) (pa_cons (pv 5) pa_nil))) (pa_cons (pe_call GP (hr.mono (by decide)) (by rfl) gP kP bP .nil pass0 (pa_cons (pv 0) (pa_cons (pv 1) pa_nil))) pa_nil)) rfl)
      (pss_cons (ps_set (i := 8) scGr.nd rfl (.inl rfl) (pe_tupRg rfl (by rfl) B.tuple (prg_1 (by rfl) B.range (pv 7))))
      (pss_cons (ps_if (pw_or (pt_cmpR (op_neD hr.units) (pe_call GRi hr (by rfl) gRi kRi bRi .nil pass1 (pa_cons (pv 6) (pa_cons (pv 8) pa_nil))) (pe_tup (pa_cons (pe_ix ix_tup (pv 3) (pv 7) (fun _ _ => rfl)) pa_nil)) (nomark _)) (pw_or1 (pt_cmpR (op_neD hr.units) (pe_call GCo hr (by rfl) gCo kCo bCo .nil pass1 (pa_cons (pv 6) (pa_cons (pv 8) (pa_cons (pe_ix ix_tup (pv 3) (pv 7) (fun _ _ => rfl)) pa_nil)))) (pe_tup (pa_cons (pv 7) pa_nil)) (nomark _)))).pt
        (pss_one (ps_ret pe_bl)) pss_nil)
      (pss_cons (ps_set (i := 9) scGr.nd rfl (.inl rfl) (pe_make m.M GN (hr.mono (by decide)) (by rfl) m.T.g m.bI .nil pass0 (pa_cons (pe_op op_repT (pe_tup (pa_cons pe_int pa_nil)) (pv 1)) (pa_cons (pv 5) pa_nil))))
      (pss_one (ps_ret (pe_and (pe_cmpR (op_eqD hr.units) (pe_call GCo hr (by rfl) gCo kCo bCo .nil pass1 (pa_cons (pv 9) (pa_cons (pv 8) (pa_cons pe_int pa_nil)))) (pe_tupRg rfl (by rfl) B.tuple (prg_2 (by rfl) B.range (pv 7) (pv 1))) (nomark _)) (pe_one (pe_cmpR (op_eqD hr.units) (pe_call GRi hr (by rfl) gRi kRi bRi .nil pass1 (pa_cons (pv 9) (pa_cons (pe_tupRg rfl (by rfl) B.tuple (prg_1 (by rfl) B.range (pv 1))) pa_nil))) (pe_tup pa_nil) (nomark _))))))))))))), ?_⟩
    have two : 2 ≤ sizeLine := by rw [sizeLine_eq]; decide
    refine ⟨_, rfl, b, g, 60, rfl, BA, by decide, by decide, fun r1 H1 r10 r11 B1 sb1 => ⟨_, _, rfl, rfl, _, rfl, b, g, 4, rfl, B1, by decide, by decide, fun r2 H2 r20 r21 B2 sb2 => ⟨_, _, rfl, rfl, two, fun tp ntp => ?_⟩⟩⟩
    obtain ⟨r1, rfl⟩ := Int.eq_ofNat_of_zero_le r10
    obtain ⟨r2, rfl⟩ := Int.eq_ofNat_of_zero_le r20
    obtain ⟨n, en⟩ : ∃ n : Nat, (60 : Int) + (r1 : Int) = (n : Int) := ⟨60 + r1, by omega⟩
    obtain ⟨s', es⟩ : ∃ s' : Nat, (2 : Int) + (r2 : Int) = (s' : Int) := ⟨2 + r2, by omega⟩
    have n60 : 60 ≤ n ∧ n < 120 := by omega
    have s2' : 2 ≤ s' ∧ s' < 6 := by omega
    dsimp only
    rw [en, es]
    refine ⟨tp, _, rfl, .inl (.inl upd_same), rfl, _, _, rfl, _, [], rfl, rfl, ?_⟩
    have sb3 := (sb1.trans sb2).trans (SameB.of (same_upd (o := .tup [V.int (n : Int), V.int (s' : Int)]) ntp))
    have B3 := B2.same (same_upd (o := .tup [V.int (n : Int), V.int (s' : Int)]) ntp)
    generalize upd H2 tp (.tup [V.int (n : Int), V.int (s' : Int)]) = H3 at sb3 B3 ⊢
    refine st_eq (σ' := [some (.ref b), some (nV n), some (nV s'), none, none, none, none, none, none, none]) rfl ?_
    -- blocks
    refine ⟨_, rfl, (n : Int), rfl, by omega, by omega, fun D nD => ?_⟩
    rw [Int.toNat_natCast]
    refine lc_range (n := n) (fun k H4 => Same H3 H4 ∧ H4 D = some (.lst (((List.range k).map fun c => c % s').map nV))) ⟨same_upd nD, upd_same⟩ ?_ ?_
    · rintro k H4 hk ⟨s4, e4⟩
      refine ⟨rfl, ?_⟩
      unfold tYes
      refine iteT ⟨_, rfl, .inl ⟨_, rfl, _, rfl, _, _, rfl, rfl, (by show (0 : Int) < (s' : Int); omega), _, e4, by rw [List.length_map, List.length_map, List.length_range, sizeLine_eq]; omega, same_put s4 nD, ?_⟩⟩
      rw [upd_same, List.range_succ, List.map_append, List.map_append, Int.zero_add]
      rfl
    rintro H4 ⟨s4, e4⟩
    refine .inl ⟨D, _, rfl, .inl (.inl e4), fun bt nbt => ?_⟩
    have s5 : Same H3 (upd H4 bt (.tup (((List.range n).map fun c => c % s').map nV))) := s4.trans (same_upd nbt)
    have gb : SqT K (upd H4 bt (.tup (((List.range n).map fun c => c % s').map nV))) bt (((List.range n).map fun c => c % s').map nV) := .inl (.inl upd_same)
    generalize upd H4 bt (.tup (((List.range n).map fun c => c % s').map nV)) = H5 at s5 gb ⊢
    obtain ⟨bl, ebl⟩ : ∃ bl, bl = (List.range n).map fun c => c % s' := ⟨_, rfl⟩
    rw [← ebl] at gb
    have lbl : bl.length = n := by rw [ebl, List.length_map, List.length_range]
    have bat : ∀ i, i < n → bl[i]? = some (i % s') := fun i hi => by rw [ebl, List.getElem?_map, List.getElem?_range hi]; rfl
    dsimp only [gName]
    refine st_eq (σ' := [some (.ref b), some (nV n), some (nV s'), some (.ref bt), none, none, none, none, none, none]) rfl ?_
    -- needs
    refine ⟨_, rfl, 1, (n : Int), rfl, ⟨by decide, by decide, by omega, by omega⟩, fun D2 nD2 => ?_⟩
    rw [show ((n : Int) - 1).toNat = n - 1 by omega]
    refine lc_range (n := n - 1) (fun k H6 => Same H5 H6 ∧ PrL H6 D2 ((List.range k).map fun i => (i + 1, i))) ⟨same_upd nD2, PrL.nil upd_same⟩ ?_ ?_
    · rintro k H6 hk ⟨s6, pr⟩
      refine ⟨rfl, ?_⟩
      unfold tYes
      refine iteT ⟨_, rfl, _, rfl, _, _, rfl, rfl, two, fun T nT => ?_⟩
      have eT : (V.int (1 + (k : Int)) = nV (k + 1)) := congrArg V.int (by omega)
      have eT2 : (V.int (1 + (k : Int) - 1) = nV k) := congrArg V.int (by omega)
      dsimp only
      rw [eT, eT2]
      have s7 := same_upd (o := .tup [nV (k + 1), nV k]) nT
      obtain ⟨acc, e9, l9, pr9⟩ := (pr.same s7).snoc (T := T) (i := k + 1) (j := k) (by rw [List.length_map, List.length_range]; omega) upd_same
      refine ⟨acc, e9, l9, same_put (s6.trans s7) nD2, ?_⟩
      rw [List.range_succ, List.map_append]
      exact pr9
    rintro H6 ⟨s6, pr⟩
    obtain ⟨rs, eD2, _, _⟩ := id pr
    refine .inl ⟨D2, _, rfl, .inl (.inl eD2), fun nt nnt => ?_⟩
    have s8 : Same H6 (upd H6 nt (.tup (rs.map V.ref))) := same_upd nnt
    have PA : PairsAt K (upd H6 nt (.tup (rs.map V.ref))) nt (rowNs n) := by
      obtain ⟨rs2, e2, mk⟩ := pr.tup (t := nt) (K := K)
      have er : rs2.map V.ref = rs.map V.ref := by
        rw [eD2] at e2
        injection e2 with e2
        injection e2 with e2
        exact e2.symm
      exact mk _ s8 (by rw [er]; exact upd_same)
    have s58 := s6.trans s8
    have gb8 := same_seqT s58 gb
    have B8 := (B3.same s5).same s58
    have sb8 := sb3.trans (SameB.of (s5.trans s58))
    generalize upd H6 nt (.tup (rs.map V.ref)) = H8 at PA s58 gb8 B8 sb8 ⊢
    rw [← lbl] at PA
    have hl200 : bl.length ≤ 200 := by omega
    have b50 : ∀ x ∈ bl, x < 50 := fun x hx => by
      rw [ebl] at hx
      obtain ⟨c, _, rfl⟩ := List.mem_map.mp hx
      have := Nat.mod_lt c (show 0 < s' by omega)
      omega
    have h60 : ∀ x ∈ bl, x < 60 := fun x hx => by have := b50 x hx; omega
    have R := rowNs_right hl200 b50
    dsimp only [gName]
    refine st_eq (σ' := [some (.ref b), some (nV n), some (nV s'), some (.ref bt), none, some (.ref nt), none, none, none, none]) rfl ?_
    -- the book, done
    refine ⟨_, rfl, _, rfl, fun p dx np ndx pdx => ?_⟩
    have s9 : Same H8 (upd (upd H8 dx (.own p)) p (.ins C dx [])) := (same_upd ndx).trans (same_upd (by rw [upd_ne pdx.symm]; exact np))
    have hp9 : upd (upd H8 dx (.own p)) p (.ins C dx []) p = some (.ins C dx []) := upd_same
    generalize upd (upd H8 dx (.own p)) p (.ins C dx []) = H9 at s9 hp9 ⊢
    refine ⟨p, dx, bt, nt, bl, _, rfl, hp9, same_seqT s9 gb8, PA.same s9, R, fun c _ => rowNs_no _ c, fun fs H10 hk ex => ⟨rfl, ?_⟩⟩
    have s8' : Same H8 H10 := fun c o h => ex c o (s9 c o h) (ne_of_none h np)
    have B10 := B8.same s8'
    refine ⟨_, rfl, _, rfl, b, g, (n : Int), rfl, B10, by omega, by omega, fun d H11 d0 d1 B11 sb11 => ⟨_, _, rfl, ?_⟩⟩
    obtain ⟨d, rfl⟩ := Int.eq_ofNat_of_zero_le d0
    have hd : d < bl.length := by omega
    have hk11 := hk.kp B10 (Kp.sameB sb11)
    have gb11 := seqT_kp B10 (Kp.sameB sb11) (same_seqT s8' gb8)
    have PA11 := (PA.same s8').kp B10 (Kp.sameB sb11)
    have sbE := (sb8.trans (SameB.of s8')).trans sb11
    refine st_eq (σ' := [some (.ref b), some (nV n), some (nV s'), some (.ref bt), none, some (.ref nt), some (.ref p), some (nV d), none, none]) rfl ?_
    -- there
    refine ⟨_, rfl, (d : Int), rfl, RgOk.of_le (by omega) (by omega) (by omega) (by omega), fun th nth => ?_⟩
    rw [rgV_nat]
    have s12 : Same H11 (upd H11 th (.tup ((List.range d).map nV))) := same_upd nth
    have gth : SqT K (upd H11 th (.tup ((List.range d).map nV))) th ((List.range d).map nV) := .inl (.inl upd_same)
    generalize upd H11 th (.tup ((List.range d).map nV)) = H12 at s12 gth ⊢
    have hk12 := hk11.same s12
    have FR := hk12.fars
    have ed : bl[d]? = some bl[d] := List.getElem?_eq_getElem hd
    have nei : ∀ i, i + 1 < bl.length → bl[i]? ≠ bl[i + 1]? := fun i hi e => by
      rw [bat i (by omega), bat (i + 1) (by omega)] at e
      injection e with e
      have h1 := Nat.mod_add_div i s'
      have h2 := Nat.mod_add_div (i + 1) s'
      rw [e] at h1
      have : s' * ((i + 1) / s') = s' * (i / s') + 1 := by omega
      have h3 : s' ∣ 1 := (Nat.dvd_add_right (Nat.dvd_mul_right s' (i / s'))).mp (this ▸ Nat.dvd_mul_right s' ((i + 1) / s'))
      have := Nat.le_of_dvd (by decide) h3
      omega
    have cl := rowNs_closed bl.length d
    have ascd : (List.range d).Pairwise (· < ·) := List.pairwise_lt_range
    have ind : ∀ c ∈ List.range d, c < bl.length := fun c hc => by rw [List.mem_range] at hc; omega
    dsimp only [gName]
    refine st_eq (σ' := [some (.ref b), some (nV n), some (nV s'), some (.ref bt), none, some (.ref nt), some (.ref p), some (nV d), some (.ref th), none]) rfl ?_
    -- ripe, comes
    refine ⟨_, rfl, _, rfl, p, .ref th, bl, _, fs, rfl, hk12, by omega, h60, stand_ok FR gth ascd ind cl fun H13 s13 ks asck memk t2 H14 s14 n14 e14 => ?_⟩
    have s1214 := s13.trans s14
    have gb14 := same_seqT (s12.trans s1214) gb11
    rw [ripe_one FR (List.getElem_mem hd) (row_next hd nei) (by simp) (fun x hx => row_none hd hx) asck memk] at e14
    have atd : ∀ {H : Hp}, atI (bl.map nV) (d : Int) = some (nV bl[d]) := fun {_} => at_of (j := d) rfl (by rw [List.getElem?_map, ed]; rfl)
    refine ⟨_, rfl, _, rfl, bt, _, _, nV bl[d], rfl, rfl, gb14, atd (H := H14), by rw [sizeLine_eq]; show 1 ≤ 16777216; decide, fun t3 n3 => ?_⟩
    have s15 : Same H14 (upd H14 t3 (.tup [nV bl[d]])) := same_upd n3
    have g15 : SqT K (upd H14 t3 (.tup [nV bl[d]])) t3 ([bl[d]].map nV) := .inl (.inl upd_same)
    generalize upd H14 t3 (.tup [nV bl[d]]) = H15 at s15 g15 ⊢
    refine ⟨.tuple ([bl[d]].map fun x : Nat => PyData.int (x : Int)), .tuple ([bl[d]].map fun x : Nat => PyData.int (x : Int)), .tup (.inl (.inl (s15 _ _ e14))) (dpAll_nats _), .tup g15 (dpAll_nats _), ints_shapedT _, ints_shapedT _, _, rfl, ?_⟩
    rw [eqv_natsT, decide_eq_true rfl]
    refine iteF ?_
    have s1215 := s1214.trans s15
    have hk15 := hk12.same s1215
    have gth15 := same_seqT s1215 gth
    have gb15 := same_seqT s15 gb14
    refine ⟨_, rfl, _, rfl, _, rfl, _, rfl, bt, _, _, nV bl[d], rfl, rfl, gb15, atd (H := H15), p, .ref th, nV bl[d], bl, _, fs, rfl, hk15, by omega, h60, fun _ _ => ob_int _, stand_ok FR gth15 ascd ind cl fun H16 s16 => ⟨fun e => ?_, fun x ex hx t4 H17 s17 n17 e17 => ?_⟩⟩
    · rw [isblk_nat rfl (List.getElem_mem hd)] at e
      cases e
    have ex : bl[d] = x := by injection ex with ex; omega
    subst ex
    have l17 := (LBr.lots (l := List.range d) (b := bl[d]) FR).uniq (row_next hd nei)
    rw [l17] at e17
    refine ⟨_, rfl, by rw [sizeLine_eq]; show 1 ≤ 16777216; decide, fun t5 n5 => ?_⟩
    have s18 : Same H17 (upd H17 t5 (.tup [nV d])) := same_upd n5
    have g18 : SqT K (upd H17 t5 (.tup [nV d])) t5 ([d].map nV) := .inl (.inl upd_same)
    generalize upd H17 t5 (.tup [nV d]) = H18 at s18 g18 ⊢
    refine ⟨.tuple ([d].map fun x : Nat => PyData.int (x : Int)), .tuple ([d].map fun x : Nat => PyData.int (x : Int)), .tup (.inl (.inl (s18 _ _ e17))) (dpAll_nats _), .tup g18 (dpAll_nats _), ints_shapedT _, ints_shapedT _, _, rfl, ?_⟩
    rw [eqv_natsT, decide_eq_true rfl]
    refine iteF ?_
    have s1218 := s1215.trans ((s16.trans s17).trans s18)
    have PA18 := PA11.same (s12.trans s1218)
    have gth18 := same_seqT s1218 gth
    -- a plain book
    try dsimp only
    refine ⟨by rw [sizeLine_eq]; show 1 ≤ 16777216; decide, fun t6 n6 => ⟨_, rfl, t6, (n : Int), [.int 3], rfl, rfl, .inl (.inl upd_same), by simp, by omega, by omega, by decide, fun b2 nb2 => ?_⟩⟩
    rw [Int.toNat_natCast, show (List.replicate n [V.int 3]).flatten = (List.replicate n 3).map nV from rep_flat n 3]
    have s19 : Same H18 (upd H18 t6 (.tup [.int 3])) := same_upd n6
    have s20 : Same H18 (upd (upd H18 t6 (.tup [.int 3])) b2 (.tup ((List.replicate n 3).map nV))) := s19.trans (same_upd nb2)
    have g20 : SqT K (upd (upd H18 t6 (.tup [.int 3])) b2 (.tup ((List.replicate n 3).map nV))) b2 ((List.replicate n 3).map nV) := .inl (.inl upd_same)
    generalize upd (upd H18 t6 (.tup [.int 3])) b2 (.tup ((List.replicate n 3).map nV)) = H20 at s20 g20 ⊢
    have PA20 : PairsAt K H20 nt (rowNs (List.replicate n 3).length) := by
      rw [List.length_replicate, ← lbl]
      exact PA18.same s20
    have l2 : (List.replicate n 3).length = n := List.length_replicate
    obtain ⟨bl2, ebl2⟩ : ∃ x, x = List.replicate n 3 := ⟨_, rfl⟩
    rw [← ebl2] at g20 PA20 l2
    have b3 : ∀ x ∈ bl2, x = 3 := fun x hx => by
      rw [ebl2] at hx
      exact List.eq_of_mem_replicate hx
    have h602 : ∀ x ∈ bl2, x < 60 := fun x hx => by rw [b3 x hx]; decide
    have in3 : 3 ∈ bl2 := by
      rw [ebl2]
      exact List.mem_replicate.mpr ⟨by omega, rfl⟩
    refine ⟨_, rfl, fun p2 dx2 np2 ndx2 pdx2 => ?_⟩
    have s21 : Same H20 (upd (upd H20 dx2 (.own p2)) p2 (.ins C dx2 [])) := (same_upd ndx2).trans (same_upd (by rw [upd_ne pdx2.symm]; exact np2))
    have hp21 : upd (upd H20 dx2 (.own p2)) p2 (.ins C dx2 []) p2 = some (.ins C dx2 []) := upd_same
    generalize upd (upd H20 dx2 (.own p2)) p2 (.ins C dx2 []) = H21 at s21 hp21 ⊢
    refine ⟨p2, dx2, b2, nt, bl2, _, rfl, hp21, same_seqT s21 g20, PA20.same s21, rowNs_right (by omega) (fun x hx => by rw [b3 x hx]; decide), fun c _ => rowNs_no _ c, fun fs2 H22 hk22 ex22 => ⟨rfl, ?_⟩⟩
    have s2022 : Same H20 H22 := fun c o h => ex22 c o (s21 c o h) (ne_of_none h np2)
    have s1822 := s20.trans s2022
    have gth22 := same_seqT s1822 gth18
    have FR2 := hk22.fars
    have ind2 : ∀ c ∈ List.range d, c < bl2.length := fun c hc => by rw [List.mem_range] at hc; omega
    have rest : LBr bl2 (rowNs bl2.length) (List.range d) 3 ((List.range (n - d)).map fun i => d + i) := by
      rw [ebl2]
      exact row_rest
    dsimp only [gName]
    refine st_eq (σ' := [some (.ref b), some (nV n), some (nV s'), some (.ref bt), none, some (.ref nt), some (.ref p), some (nV d), some (.ref th), some (.ref p2)]) rfl ?_
    refine ⟨_, rfl, _, rfl, p2, .ref th, .int 3, bl2, _, fs2, rfl, hk22, by omega, h602, fun _ _ => ob_int _, stand_ok FR2 gth22 ascd ind2 (rowNs_closed _ d) fun H23 s23 => ⟨fun e => ?_, fun x ex hx t4 H24 s24 n24 e24 => ?_⟩⟩
    · rw [show isBlk bl2 (.int 3) = true from isblk_nat (x := 3) rfl in3] at e
      cases e
    obtain rfl : x = 3 := b3 x hx
    rw [(LBr.lots (l := List.range d) (b := 3) FR2).uniq rest] at e24
    refine ⟨_, rfl, _, rfl, _, _, rfl, rfl, RgOk.of_le (by omega) (by omega) (by omega) (by omega), fun t5 n5 => ?_⟩
    rw [rgV_two]
    have s25 : Same H24 (upd H24 t5 (.tup (((List.range (n - d)).map fun i => d + i).map nV))) := same_upd n5
    have g25 : SqT K (upd H24 t5 (.tup (((List.range (n - d)).map fun i => d + i).map nV))) t5 (((List.range (n - d)).map fun i => d + i).map nV) := .inl (.inl upd_same)
    generalize upd H24 t5 (.tup (((List.range (n - d)).map fun i => d + i).map nV)) = H25 at s25 g25 ⊢
    generalize ((List.range (n - d)).map fun i => d + i) = lo at e24 g25
    refine ⟨.tuple (lo.map fun x : Nat => PyData.int (x : Int)), .tuple (lo.map fun x : Nat => PyData.int (x : Int)), .tup (.inl (.inl (s25 _ _ e24))) (dpAll_nats _), .tup g25 (dpAll_nats _), ints_shapedT _, ints_shapedT _, _, rfl, ?_⟩
    rw [eqv_natsT, decide_eq_true rfl]
    refine iteT ?_
    have s2225 := (s23.trans s24).trans s25
    refine ⟨_, rfl, _, rfl, (n : Int), rfl, RgOk.of_le (by omega) (by omega) (by omega) (by omega), fun t7 n7 => ?_⟩
    rw [rgV_nat]
    have s26 : Same H25 (upd H25 t7 (.tup ((List.range n).map nV))) := same_upd n7
    have g26 : SqT K (upd H25 t7 (.tup ((List.range n).map nV))) t7 ((List.range n).map nV) := .inl (.inl upd_same)
    generalize upd H25 t7 (.tup ((List.range n).map nV)) = H26 at s26 g26 ⊢
    have hk26 := hk22.same (s2225.trans s26)
    refine ⟨p2, .ref t7, bl2, _, fs2, rfl, hk26, by omega, h602, stand_ok FR2 g26 List.pairwise_lt_range (fun c hc => by rw [List.mem_range] at hc; omega) (rowNs_closed _ n) fun H27 s27 ks asck memk t8 H28 s28 n28 e28 => ?_⟩
    rw [ripe_none FR2 fun x => by
      have z := row_full (bl := bl2) (b := x)
      rw [show List.range bl2.length = List.range n by rw [l2]] at z
      exact z] at e28
    refine ⟨Nat.zero_le _, fun t9 n9 => ?_⟩
    have s29 : Same H28 (upd H28 t9 (.tup [])) := same_upd n9
    have g29 : SqT K (upd H28 t9 (.tup [])) t9 (([] : List Nat).map nV) := .inl (.inl upd_same)
    generalize upd H28 t9 (.tup []) = H29 at s29 g29 ⊢
    refine ⟨.tuple (([] : List Nat).map fun x : Nat => PyData.int (x : Int)), .tuple (([] : List Nat).map fun x : Nat => PyData.int (x : Int)), .tup (.inl (.inl (s29 _ _ e28))) (dpAll_nats _), .tup g29 (dpAll_nats _), ints_shapedT _, ints_shapedT _, ?_⟩
    rw [eqv_natsT, decide_eq_true rfl]
    have sE := (s12.trans s1218).trans (s1822.trans (s2225.trans ((s26.trans s27).trans (s28.trans s29))))
    exact q H29 (B11.same sE) (sbE.trans (SameB.of sE))
end
end Rip

/-! The law's is: of flags, of lists of lots. -/
namespace Rip
open PySem PySem.Spec PyProof.Rows L2 RipS
section
variable {P : Program} {w : World} {K : PySem.W.Frag} {mg : Str → Option Value} {base : Heap}
def spLeafB : Sp := fun vs H Q _ => ∃ x : Bool, vs = [.bl x, .bl x] ∧ ∀ H', Same H H' → Q (.bl true) H'
theorem ok_leafB {f : Addr} {fd : FuncData} (F : Fun K "_law_is" "_law_is" s_is f fd) (B : Blt mg) : FnOk P w K mg base CX0 1 f fd ["_law_thing", "_law_due"] spLeafB := by
  refine F.ok scEq (fun vs H Q E h => ?_) (fun cdv A outer s H vs Q E hr h => ?_)
  · obtain ⟨x, rfl, _⟩ := h
    rfl
  · obtain ⟨x, rfl, q⟩ := h
    refine ⟨_,
      (pss_cons (ps_if (pt_val (pe_callB call_isiT (by rfl) B.isinstance PyProof.Rows.boot_isinstance (pa_cons (pv 1) (pa_cons (pe_tup (pa_cons (pe_bltn (v := .ty "tuple") (by rfl) B.tuple PyProof.Rows.boot_tuple rfl) (pa_cons (pe_bltn (v := .ty "list") (by rfl) B.list PyProof.Rows.boot_list rfl) pa_nil))) pa_nil))))
        (pss_cons ps_no (pss_one ps_no)) pss_nil)
      (pss_one (ps_ret (pe_and (pe_cmpR op_eq (pe_callB call_isi (by rfl) B.isinstance PyProof.Rows.boot_isinstance (pa_cons (pv 0) (pa_cons (pe_bltn (v := .ty "bool") (by rfl) B.bool PyProof.Rows.boot_bool rfl) pa_nil))) (pe_callB call_isi (by rfl) B.isinstance PyProof.Rows.boot_isinstance (pa_cons (pv 1) (pa_cons (pe_bltn (v := .ty "bool") (by rfl) B.bool PyProof.Rows.boot_bool rfl) pa_nil))) (nomark _))
        (pe_one (pe_cmpR op_eq (pv 0) (pv 1) (nomark _))))))), ?_⟩
    refine ⟨_, rfl, two_line, fun T nT => ?_⟩
    have s1 : Same H (upd H T (.tup [.ty "tuple", .ty "list"])) := same_upd nT
    have e1 : upd H T (.tup [.ty "tuple", .ty "list"]) T = some (.tup [.ty "tuple", .ty "list"]) := upd_same
    generalize upd H T (.tup [.ty "tuple", .ty "list"]) = H1 at s1 e1 ⊢
    have ty : TyX K H1 (.bl x) (.type "bool") := .base (.bl x)
    have k1 : PySem.W.kitAny K (.type "bool") [.type "tuple", .type "list"] = some false := kitAny_cons (kit_ty (show kitB "bool" "tuple" = some false by decide +kernel)) (fun _ => kitAny_cons (kit_ty (show kitB "bool" "list" = some false by decide +kernel)) (fun _ => kitAny_nil) (fun z => by cases z)) (fun z => by cases z)
    have k2 : PySem.W.kitOne K (.type "bool") (.type "bool") = some true := kit_ty (show kitB "bool" "bool" = some true by decide +kernel)
    refine ⟨.bl x, T, _, _, _, false, rfl, e1, .cons (.ty "tuple") (.cons (.ty "list") .nil), ty, k1, _, rfl, iteF ?_⟩
    refine ⟨_, rfl, .bl x, _, _, _, true, rfl, .ty "bool", ty, k2, _, rfl, .bl x, _, _, _, true, rfl, .ty "bool", ty, k2, rfl, _, rfl, iteT ⟨_, rfl, _, rfl, rfl, ?_⟩⟩
    rw [decide_eq_true rfl]
    exact q H1 s1
/-- of two lists of the same lots -/
def spIsLots (K : PySem.W.Frag) : Sp := fun vs H Q _ => ∃ (a b : Addr) (ms : List Nat), vs = [.ref a, .ref b] ∧ LotsAt K H a ms ∧ LotsAt K H b ms ∧ (∀ m ∈ ms, (lotOf m).length ≤ 1000) ∧ ms.length ≤ 200000 ∧ ∀ H', Same H H' → Q (.bl true) H'
theorem ok_islots {f : Addr} {fd : FuncData} (F : Fun K "_law_is" "_law_is" s_is f fd) (B : Blt mg) (hL : Has P w K mg base CX0 2 "_law_is" ["_law_thing", "_law_due"] (spIsTwo K)) : FnOk P w K mg base CX0 3 f fd ["_law_thing", "_law_due"] (spIsLots K) := by
  obtain ⟨fL, fdL, GL, kL, bL, gL⟩ := hL
  refine F.ok scEq (fun vs H Q E h => ?_) (fun cdv A outer s H vs Q E hr h => ?_)
  · obtain ⟨a, b, xs, rfl, _⟩ := h
    rfl
  · obtain ⟨a, b, ms, rfl, ⟨ra, ea, la, ha⟩, ⟨rb, eb, lb, hb⟩, hm, hl, q⟩ := h
    refine ⟨_,
      (pss_cons (ps_if (pt_val (pe_callB call_isiT (by rfl) B.isinstance PyProof.Rows.boot_isinstance (pa_cons (pv 1) (pa_cons (pe_tup (pa_cons (pe_bltn (v := .ty "tuple") (by rfl) B.tuple PyProof.Rows.boot_tuple rfl) (pa_cons (pe_bltn (v := .ty "list") (by rfl) B.list PyProof.Rows.boot_list rfl) pa_nil))) pa_nil))))
        (pss_cons (ps_if (pw_or (pt_cmpR op_ne (pe_callB call_isi (by rfl) B.isinstance PyProof.Rows.boot_isinstance (pa_cons (pv 0) (pa_cons (pe_bltn (v := .ty "tuple") (by rfl) B.tuple PyProof.Rows.boot_tuple rfl) pa_nil))) (pe_callB call_isi (by rfl) B.isinstance PyProof.Rows.boot_isinstance (pa_cons (pv 1) (pa_cons (pe_bltn (v := .ty "tuple") (by rfl) B.tuple PyProof.Rows.boot_tuple rfl) pa_nil))) (nomark _))
            (pw_or1 (pt_cmpR op_ne (pe_callB call_isi (by rfl) B.isinstance PyProof.Rows.boot_isinstance (pa_cons (pv 0) (pa_cons (pe_bltn (v := .ty "list") (by rfl) B.list PyProof.Rows.boot_list rfl) pa_nil))) (pe_callB call_isi (by rfl) B.isinstance PyProof.Rows.boot_isinstance (pa_cons (pv 1) (pa_cons (pe_bltn (v := .ty "list") (by rfl) B.list PyProof.Rows.boot_list rfl) pa_nil))) (nomark _)))).pt
          (pss_one ps_no) pss_nil)
        (pss_one (ps_ret (pe_and (pe_cmpR op_eq (pe_callB call_len_seq (by rfl) B.len PySem.boot_len (pa_cons (pv 0) pa_nil)) (pe_callB call_len_seq (by rfl) B.len PySem.boot_len (pa_cons (pv 1) pa_nil)) (nomark _))
          (pe_one (pe_callB (cr_all rfl) (by rfl) B.all PyProof.Rows.boot_all (pa_cons (pe_lc (own := [("_law_one", 2), ("_law_other", 3)]) (g := gTwo K 2 3) (tt := tYes) (te := tCall (spIsTwo K) [] E0 (tCons (tVar 2) (tCons (tVar 3) tNil))) rfl scEq.nd (RZ.pi_zipA (by rfl) B.zip (pa_cons (pv 0) (pa_cons (pv 1) pa_nil))) (blkOk_by (own := [("_law_one", 2), ("_law_other", 3)]) (N := scEqN) (sc := defScope s_is) (by decide +kernel))
            (fun _ _ _ _ _ => (pg_tup rfl (pgs_cons (pg_name (i := 2) scEq.nd rfl (.inl rfl)) (pgs_cons (pg_name (i := 3) scEq.nd rfl (.inl rfl)) pgs_nil)))) (fun _ _ _ _ _ => pts_nil) (fun _ _ _ _ _ => (pe_call GL hr (by rfl) gL kL bL .nil pass0 (pa_cons (pv 2) (pa_cons (pv 3) pa_nil))))) pa_nil))))))) pss_nil)
      (pss_one ps_no)), ?_⟩
    refine ⟨_, rfl, two_line, fun T nT => ?_⟩
    have s1 : Same H (upd H T (.tup [.ty "tuple", .ty "list"])) := same_upd nT
    have e1 : upd H T (.tup [.ty "tuple", .ty "list"]) T = some (.tup [.ty "tuple", .ty "list"]) := upd_same
    generalize upd H T (.tup [.ty "tuple", .ty "list"]) = H1 at s1 e1 ⊢
    have ea1 := s1 _ _ ea
    have eb1 := s1 _ _ eb
    have ta : TyX K H1 (.ref a) (.type "list") := .base (.lst ea1)
    have tb : TyX K H1 (.ref b) (.type "list") := .base (.lst eb1)
    have kt : PySem.W.kitOne K (.type "list") (.type "tuple") = some false := kit_ty (by decide +kernel)
    have kl : PySem.W.kitOne K (.type "list") (.type "list") = some true := kit_ty (by decide +kernel)
    have ka : PySem.W.kitAny K (.type "list") [.type "tuple", .type "list"] = some true := kitAny_cons kt (fun _ => kitAny_cons kl (fun z => by cases z) (fun _ => rfl)) (fun z => by cases z)
    refine ⟨_, T, _, _, _, true, rfl, e1, .cons (.ty "tuple") (.cons (.ty "list") .nil), tb, ka, _, rfl, iteT ?_⟩
    refine ⟨_, rfl, _, _, _, _, false, rfl, .ty "tuple", ta, kt, _, rfl, _, _, _, _, false, rfl, .ty "tuple", tb, kt, rfl, _, rfl, iteNS rfl ?_⟩
    refine ⟨_, rfl, _, _, _, _, true, rfl, .ty "list", ta, kl, _, rfl, _, _, _, _, true, rfl, .ty "list", tb, kl, rfl, _, rfl, iteNS rfl ?_⟩
    refine ⟨_, rfl, a, _, rfl, .inl (.inl (.inl ea1)), _, rfl, b, _, rfl, .inl (.inl (.inl eb1)), rfl, _, rfl, ?_⟩
    rw [decide_eq_true (show V.int (ra.map V.ref).length = V.int (rb.map V.ref).length by rw [List.length_map, List.length_map, la, lb])]
    refine iteT ⟨_, rfl, _, rfl, a, b, _, _, rfl, .inl ⟨.inl (.inl ea1), .inl (.inl eb1), fun D nD => ?_⟩⟩
    have ln : ra.length = min (ra.map V.ref).length (rb.map V.ref).length := by rw [List.length_map, List.length_map, la, lb, Nat.min_self]
    refine lc_it (walk_zip (K := K) (a := a) (b := b) ln) (fun i H4 => Same H1 H4 ∧ H4 D = some (.lst ((List.replicate i true).map V.bl))) ⟨same_upd nD, upd_same⟩ (fun i H4 _ z => ⟨.inl (.inl (z.1 _ _ ea1)), .inl (.inl (z.1 _ _ eb1))⟩) ?_ ?_
    · rintro i x H4 H5 hi ⟨s4, e4⟩ ⟨T2, v1, v2, rfl, nT2, rfl, x1, x2⟩
      have a1 : ra[i]? = some ra[i] := List.getElem?_eq_getElem hi
      have b1 : rb[i]? = some rb[i] := List.getElem?_eq_getElem (by omega)
      have m1 : ms[i]? = some ms[i] := List.getElem?_eq_getElem (by omega)
      have x1 : (ra.map V.ref)[i]? = some v1 := x1
      have x2 : (rb.map V.ref)[i]? = some v2 := x2
      rw [List.getElem?_map, a1] at x1
      rw [List.getElem?_map, b1] at x2
      cases x1
      cases x2
      have h1 := ha i _ _ a1 m1
      have h2 := hb i _ _ b1 m1
      have h3 := hm _ (List.mem_of_getElem? m1)
      generalize ra[i] = r1 at h1 nT2 ⊢
      generalize rb[i] = r2 at h2 ⊢
      generalize ms[i] = mi at h1 h2 h3
      have nDT : D ≠ T2 := ne_of_none e4 nT2
      have s5 : Same H1 (upd H4 T2 (.tup [.ref r1, .ref r2])) := s4.trans (same_upd nT2)
      have e5 : upd H4 T2 (.tup [.ref r1, .ref r2]) D = some (.lst ((List.replicate i true).map V.bl)) := by rw [upd_ne nDT]; exact e4
      refine ⟨T2, _, rfl, .inl (.inl upd_same), rfl, _, _, rfl, _, [], rfl, rfl, ?_⟩
      generalize upd H4 T2 (.tup [.ref r1, .ref r2]) = H6 at s5 e5 ⊢
      refine ⟨rfl, _, rfl, _, rfl, r1, r2, _, rfl, same_seqT (s1.trans s5) h1, same_seqT (s1.trans s5) h2, fun x hx => ?_, by rw [List.length_map]; exact h3, fun H7 s7 => ⟨_, s7 _ _ e5, by rw [List.length_map, List.length_replicate, sizeLine_eq]; omega, same_put (s5.trans s7) nD, ?_⟩⟩
      · obtain ⟨c, _, rfl⟩ := List.mem_map.mp hx
        rfl
      · rw [upd_same, List.replicate_succ', List.map_append]
        rfl
    · rintro H4 ⟨s4, e4⟩
      refine ⟨D, List.replicate ra.length true, rfl, .inl (.inl e4), ?_⟩
      have e6 : (List.replicate ra.length true).all id = true := List.all_eq_true.mpr fun x hx => (List.mem_replicate.mp hx).2
      rw [e6]
      exact q H4 (s1.trans s4)
end
end Rip

/-! The law's own willing rows: something is ripe while not all is there. -/
namespace Rip
open PySem PySem.Spec PyProof.Rows L2 RipS
theorem sub_len : ∀ {l m : List Nat}, l.Nodup → (∀ x ∈ l, x ∈ m) → l.length ≤ m.length
  | [], _, _, _ => Nat.zero_le _
  | a :: l, m, nd, h => by
    have nd2 := List.nodup_cons.mp nd
    have ha := h a List.mem_cons_self
    have z := sub_len (l := l) (m := m.erase a) nd2.2 fun x hx => (List.mem_erase_of_ne (fun e => nd2.1 (by rw [← e]; exact hx))).mpr (h x (List.mem_cons_of_mem _ hx))
    rw [List.length_erase_of_mem ha] at z
    have p := List.length_pos_of_mem ha
    show l.length + 1 ≤ _
    omega
theorem full_iff {n T : Nat} (hT : T < 2 ^ n) (h : ∀ c, c < n → T.testBit c = true) : T = 2 ^ n - 1 := by
  apply Nat.eq_of_testBit_eq
  intro j
  rw [Nat.testBit_two_pow_sub_one]
  by_cases hj : j < n
  · rw [decide_eq_true hj, h j hj]
  · rw [decide_eq_false hj]
    exact Nat.testBit_lt_two_pow (Nat.lt_of_lt_of_le hT (Nat.pow_le_pow_right (by decide) (by omega)))
theorem full_len {n T : Nat} (hT : T < 2 ^ n) (h : n ≤ (lotOf T).length) : T = 2 ^ n - 1 := by
  refine full_iff hT fun c hc => ?_
  cases e : T.testBit c with
  | true => rfl
  | false =>
    have nd : (c :: lotOf T).Nodup := List.nodup_cons.mpr ⟨(fun m => by rw [mem_lotOf, e] at m; cases m), (asc_lotOf T).imp fun h => by omega⟩
    have z := nodup_below (n := n) nd fun x hx => by
      rcases List.mem_cons.mp hx with rfl | hx
      · exact hc
      · by_cases y : x < n
        · exact y
        · rw [mem_lotOf, Nat.testBit_lt_two_pow (Nat.lt_of_lt_of_le hT (Nat.pow_le_pow_right (by decide) (by omega)))] at hx
          cases hx
    rw [List.length_cons] at z
    omega
/-- something is ripe while not all is there -/
theorem full_of_none {bl : List Nat} {ns : List (Nat × Nat)} {f : List Nat} {T : Nat} (F : FarsOf bl.length ns f) (hb : ∀ p ∈ ns, p.1 < bl.length ∧ p.2 < bl.length) (hT : T < 2 ^ bl.length) (h : ∀ b ∈ bl, ∀ r, LBr bl ns (lotOf T) b r → r = []) : T = 2 ^ bl.length - 1 := by
  have key : ∀ k c m, c < bl.length → f[c]? = some m → m < k → c ∈ lotOf T := by
    intro k
    induction k with
    | zero => exact fun c m _ _ h => absurd h (Nat.not_lt_zero _)
    | succ k ih =>
      intro c m hc em hm
      by_cases y : c ∈ lotOf T
      · exact y
      have ec : bl[c]? = some bl[c] := List.getElem?_eq_getElem hc
      have br := LBr.lots (l := lotOf T) (b := bl[c]) F
      have z := h bl[c] (List.getElem_mem hc) _ br
      have hc2 := (br.2 c).mpr ⟨ec, y, fun o fo => .inl ?_⟩
      · rw [z] at hc2
        cases hc2
      have ho : o < bl.length := Far.ends hb fo
      have ho2 : o < f.length := by rw [F.len]; exact ho
      have eo : f[o]? = some f[o] := List.getElem?_eq_getElem ho2
      refine ih o f[o] ho eo ?_
      have sub : f[o] &&& m = f[o] := by
        apply Nat.eq_of_testBit_eq
        intro j
        rw [Nat.testBit_and]
        cases e : f[o].testBit j with
        | false => rfl
        | true =>
          rw [(F.bits c m em j).mpr (fo.trans ((F.bits o _ eo j).mp e))]
          rfl
      have le : f[o] ≤ m := by
        have := Nat.and_le_right (n := f[o]) (m := m)
        omega
      have ne : f[o] ≠ m := fun e => by
        have b1 := (F.bits c m em o).mpr fo
        rw [← e] at b1
        exact F.no o ho ((F.bits o _ eo o).mp b1)
      omega
  refine full_iff hT fun c hc => ?_
  have hc2 : c < f.length := by rw [F.len]; exact hc
  exact (mem_lotOf T c).mp (key (f[c] + 1) c f[c] hc (List.getElem?_eq_getElem hc2) (Nat.lt_succ_self _))
/-- whether each write of a row brings something -/
def allB (f bl : List Nat) : Nat → List Nat → Bool
  | _, [] => true
  | t, b :: r => decide (brOf f (blkM bl b bl.length) t ≠ 0) && allB f bl (t ||| brOf f (blkM bl b bl.length) t) r
theorem willGo_eq (f bl : List Nat) : ∀ (row : List Nat) (t : Nat), willGo f bl t row = (allB f bl t row && decide (thereAt f bl t row = 2 ^ bl.length - 1))
  | [], t => by
    show decide (t = 2 ^ bl.length - 1) = (true && decide (t = 2 ^ bl.length - 1))
    rw [Bool.true_and]
  | b :: r, t => by
    show (decide (brOf f (blkM bl b bl.length) t ≠ 0) && willGo f bl (t ||| brOf f (blkM bl b bl.length) t) r) = ((decide (brOf f (blkM bl b bl.length) t ≠ 0) && allB f bl (t ||| brOf f (blkM bl b bl.length) t) r) && decide (thereAt f bl (t ||| brOf f (blkM bl b bl.length) t) r = 2 ^ bl.length - 1))
    rw [willGo_eq f bl r, Bool.and_assoc]
theorem allB_snoc (f bl : List Nat) (b : Nat) : ∀ (row : List Nat) (t : Nat), allB f bl t (row ++ [b]) = (allB f bl t row && decide (brOf f (blkM bl b bl.length) (thereAt f bl t row) ≠ 0))
  | [], t => by
    show (decide (brOf f (blkM bl b bl.length) t ≠ 0) && true) = (true && decide (brOf f (blkM bl b bl.length) t ≠ 0))
    rw [Bool.true_and, Bool.and_true]
  | c :: r, t => by
    show (decide (brOf f (blkM bl c bl.length) t ≠ 0) && allB f bl (t ||| brOf f (blkM bl c bl.length) t) (r ++ [b])) = ((decide (brOf f (blkM bl c bl.length) t ≠ 0) && allB f bl (t ||| brOf f (blkM bl c bl.length) t) r) && decide (brOf f (blkM bl b bl.length) (thereAt f bl (t ||| brOf f (blkM bl c bl.length) t) r) ≠ 0))
    rw [allB_snoc f bl b r, Bool.and_assoc]
theorem br_more {f bl : List Nat} {b t : Nat} (h : brOf f (blkM bl b bl.length) t ≠ 0) : (lotOf t).length + 1 ≤ (lotOf (t ||| brOf f (blkM bl b bl.length) t)).length := by
  obtain ⟨c, hc⟩ := Nat.exists_testBit_of_ne_zero h
  have nc : t.testBit c = false := ((brOf_bit _ _ _ _).mp hc).2.1
  have nd : (c :: lotOf t).Nodup := List.nodup_cons.mpr ⟨(fun m => by rw [mem_lotOf, nc] at m; cases m), (asc_lotOf t).imp fun h => by omega⟩
  exact sub_len nd fun x hx => by
    rw [mem_lotOf, Nat.testBit_or, Bool.or_eq_true]
    rcases List.mem_cons.mp hx with rfl | hx
    · exact .inr hc
    · exact .inl ((mem_lotOf _ _).mp hx)
end Rip

/-! Readings that give short tuples of things. -/
namespace Rip
open PySem PySem.Spec PyProof.Rows L2 RipS
/-- a reading that gives a short tuple of things -/
def TupP (K : PySem.W.Frag) (C b g : Addr) (H0 : Hp) (σ : L2.St) (n : Nat) (tX : TE) : Prop := ∀ H, Same H0 H → ∀ Q : VK, (∀ (p : Addr) (H' : Hp) (xs : List V), Same H H' → SqT K H' p xs → (∀ x ∈ xs, Thing K C b g H0 x) → xs.length ≤ n → Q (.ref p) H') → tX σ H Q
theorem TupP.cat {K : PySem.W.Frag} {C b g : Addr} {H0 : Hp} {σ : L2.St} {n m : Nat} {tX tY : TE} (x : TupP K C b g H0 σ n tX) (y : TupP K C b g H0 σ m tY) (h : n + m ≤ 1000) : TupP K C b g H0 σ (n + m) (tOp (rCatA K) tX tY) := by
  intro H s Q k
  refine x H s _ fun p1 H1 xs s1 e1 t1 l1 => y H1 (s.trans s1) _ fun p2 H2 ys s2 e2 t2 l2 => ?_
  refine catA_of (same_seqT s2 e1) e2 (by rw [sizeLine_eq]; omega) fun p3 H3 s3 e3 => k p3 H3 _ ((s1.trans s2).trans s3) e3 (fun z hz => (List.mem_append.mp hz).elim (t1 z) (t2 z)) (by rw [List.length_append]; omega)
theorem TupP.one {K : PySem.W.Frag} {C b g : Addr} {H0 : Hp} {σ : L2.St} {i : Nat} {v : V} (e : σ[i]? = some (some v)) (t : Thing K C b g H0 v) : TupP K C b g H0 σ 1 (tTup (tCons (tVar i) tNil)) := by
  intro H s Q k
  refine ⟨_, e, by rw [sizeLine_eq]; show 1 ≤ 16777216; decide, fun p n => k p _ [v] (same_upd n) (.inl (.inl upd_same)) (fun x hx => ?_) (Nat.le_refl _)⟩
  rw [List.mem_singleton.mp hx]
  exact t
theorem TupP.lit {K : PySem.W.Frag} {C b g : Addr} {H0 : Hp} {σ : L2.St} {te : TE} {v : V} (e : ∀ H Q, Q v H → te σ H Q) (t : Thing K C b g H0 v) : TupP K C b g H0 σ 1 (tTup (tCons te tNil)) := by
  intro H s Q k
  refine e H _ ⟨by rw [sizeLine_eq]; show 1 ≤ 16777216; decide, fun p n => k p _ [v] (same_upd n) (.inl (.inl upd_same)) (fun x hx => ?_) (Nat.le_refl _)⟩
  rw [List.mem_singleton.mp hx]
  exact t
end Rip

/-! The law's own bent standings (k07). -/
namespace Rip
open PySem PySem.Spec PyProof.Rows L2 RipS
section
variable {P : Program} {w : World} {K : PySem.W.Frag} {mg : Str → Option Value} {base : Heap}
abbrev s_lbs : Stmt := top 46
def spLbs (K : PySem.W.Frag) (C : Addr) : Sp := fun vs H Q _ => ∃ (b g t : Addr) (l : List Nat) (n : Nat), vs = [.ref b, .ref t, nV n] ∧ BagAt H b g ∧ SqT K H t (l.map nV) ∧ l.length ≤ 30 ∧ (∀ c ∈ l, c < 60) ∧ n ≤ 30 ∧
  ∀ (v : V) (H' : Hp), BagAt H' b g → SameB b g H H' → RThing K C b g H' v → Q v H'
abbrev scBsN : List Str := ["_law_bag_here", "_law_there", "_law_many", "_law_at", "_law_change", "_law_some_here"]
theorem scBs : FnScope scBsN ["_law_bag_here", "_law_there", "_law_many"] (defScope s_lbs) := ⟨rfl, rfl, rfl, by decide +kernel, rfl, by decide +kernel, by decide +kernel⟩
theorem ok_lbs {f C : Addr} {fd : FuncData} (F : Fun K "_law_bent" "_law_bent" s_lbs f fd) (B : Blt mg) (hst : mg "set" = none) (hsr : mg "sorted" = none) (hP : Has P w K mg base CX0 1 "_law_pick" ["_law_bag_here", "_law_many"] spPick)
    (hO : Has P w K mg base CX0 2 "_law_some" ["_law_bag_here", "_law_things"] spSome) (hD : Has P w K mg base CX0 1 "_law_deep" [] spDeep) : FnOk P w K mg base CX0 3 f fd ["_law_bag_here", "_law_there", "_law_many"] (spLbs K C) := by
  obtain ⟨fP, fdP, GP, kP, bP, gP⟩ := hP
  obtain ⟨fO, fdO, GO, kO, bO, gO⟩ := hO
  obtain ⟨fD, fdD, GD, kD, bD, gD⟩ := hD
  refine F.ok scBs (fun vs H Q E h => ?_) (fun cdv A outer s H vs Q E hr h => ?_)
  · obtain ⟨b, g, t, l, n, rfl, _⟩ := h
    rfl
  · obtain ⟨b, g, t, l, n, rfl, BA, ht, ll, l60, hn, q⟩ := h
    refine ⟨_,
      (pss_cons (ps_par (i := 3) (j := 4) rfl scBs.nd rfl rfl (by decide) rfl rfl (pa_cons (pe_call GP (hr.mono (by decide)) (by rfl) gP kP bP .nil pass0 (pa_cons (pv 0) (pa_cons (pe_op op_add (pe_callB call_len_seq (by rfl) B.len PySem.boot_len (pa_cons (pv 1) pa_nil)) pe_int) pa_nil))) (pa_cons (pe_call GP (hr.mono (by decide)) (by rfl) gP kP bP .nil pass0 (pa_cons (pv 0) (pa_cons (pe_op op_add (pv 2) pe_int) pa_nil))) pa_nil)) rfl)
      (pss_cons (ps_set (i := 5) scBs.nd rfl (.inl rfl) (pe_lst (pa_cons (pe_op op_catA (pe_slice sl_tupA (pv 1) po_none (po_some (pv 3))) (pe_slice sl_tupA (pv 1) (po_some (pe_op op_add (pv 3) pe_int)) po_none)) (pa_cons (pe_tupleOf (by rfl) B.tuple (pe_callB (cr_sortedSet rfl) (by rfl) hsr boot_sortedI (pa_cons (pe_callTy (cr_setI rfl) (by rfl) hst boot_setI (pa_cons (pe_op op_catA (pv 1) (pe_tup (pa_cons (pv 4) pa_nil))) pa_nil)) pa_nil))) (pa_cons (pe_revT (pv 1)) (pa_cons (pe_callTy call_list_of (by rfl) B.list PyProof.Rows.boot_list (pa_cons (pv 1) pa_nil)) (pa_cons (pv 1) pa_nil)))))))
      (pss_cons (ps_set (i := 5) scBs.nd rfl (.inl rfl) (pe_op op_cat (pv 5) (pe_lst (pa_cons (pe_op op_catA (pv 1) (pe_slice sl_tupA (pv 1) (po_some (pe_un un_neg pe_int)) po_none)) (pa_cons (pe_op op_catA (pv 1) (pe_tup (pa_cons (pv 2) pa_nil))) (pa_cons (pe_op op_catA (pe_tup (pa_cons (pe_un un_neg pe_int) pa_nil)) (pv 1)) (pa_cons (pe_tup (pa_cons pe_bl pa_nil)) (pa_cons pe_non (pa_cons pe_int (pa_cons pe_str (pa_cons pe_dnewK (pa_cons (pe_call0 GD (hr.mono (by decide)) (by rfl) gD kD bD .nil pass0) pa_nil))))))))))))
      (pss_cons (ps_set (i := 5) scBs.nd rfl (.inl rfl) (pe_op op_cat (pv 5) (pe_lst (pa_cons (pe_op op_catA (pv 1) (pe_tup (pa_cons pe_non pa_nil))) (pa_cons (pe_tup (pa_cons (pv 1) pa_nil)) pa_nil)))))
      (pss_one (ps_ret (pe_call GO hr (by rfl) gO kO bO .nil pass0 (pa_cons (pv 0) (pa_cons (pv 5) pa_nil))))))))), ?_⟩
    have one : 1 ≤ sizeLine := by rw [sizeLine_eq]; decide
    refine ⟨_, rfl, _, rfl, t, _, rfl, .inr ht, _, _, rfl, rfl, b, g, _, rfl, BA, by rw [List.length_map]; omega, by rw [List.length_map]; omega, fun r H1 r0 r1 B1 sb1 => ?_⟩
    refine ⟨_, rfl, _, rfl, _, _, rfl, rfl, b, g, _, rfl, B1, by omega, by omega, fun ch H2 c0 c1 B2 sb2 => ⟨_, _, rfl, ?_⟩⟩
    obtain ⟨ch, rfl⟩ := Int.eq_ofNat_of_zero_le c0
    have sb02 := sb1.trans sb2
    have ht2 := seqT_kp BA (Kp.sameB sb02) ht
    refine st_eq (σ' := [some (.ref b), some (.ref t), some (nV n), some (.int r), some (nV ch), none]) rfl ?_
    dsimp only
    have cutk : ∀ {H : Hp} {Q : VK} {lo hi : Option Int}, Same H2 H → (∀ (p : Addr) (H' : Hp) (xs : List V), Same H H' → SqT K H' p xs → (∀ x ∈ xs, Thing K C b g H2 x) → xs.length ≤ 30 → Q (.ref p) H') → rSlA K (.ref t) lo hi H Q := fun s k =>
      slT_of (same_seqT s ht2) fun p H' s' hs => k p H' _ s' hs (fun x hx => .sc (scal_nat (mem_cut hx))) (Nat.le_trans (cutV_length _ _ _) (by rw [List.length_map]; exact ll))
    have rowP : ∀ σ : L2.St, σ[1]? = some (some (.ref t)) → TupP K C b g H2 σ 30 (tVar 1) := fun σ e H s Q k => ⟨_, e, k t H _ (Same.refl H) (same_seqT s ht2) (fun x hx => .sc (scal_nat hx)) (by rw [List.length_map]; exact ll)⟩
    refine TupP.cat (K := K) (C := C) (b := b) (g := g) (n := 30) (m := 30) ?_ ?_ (by decide) H2 (Same.refl H2) _ fun q1 h1 xs1 s1 g1 t1 w1 => ?_
    · intro H s Q k
      refine ⟨_, rfl, ?_⟩
      dsimp only [tNoPart, Cx.nox]
      exact ⟨_, rfl, _, rfl, cutk s k⟩
    · intro H s Q k
      refine ⟨_, rfl, ?_⟩
      dsimp only [tNoPart, Cx.nox]
      exact ⟨_, rfl, _, _, rfl, rfl, _, rfl, cutk s k⟩
    -- the sorted set
    refine ⟨_, rfl, _, rfl, one, fun t2 n2 => ?_⟩
    have v2 : Same h1 (upd h1 t2 (.tup [nV ch])) := same_upd n2
    have f2 : SqT K (upd h1 t2 (.tup [nV ch])) t2 [nV ch] := .inl (.inl upd_same)
    generalize upd h1 t2 (.tup [nV ch]) = h2 at v2 f2 ⊢
    refine catA_of (same_seqT (s1.trans v2) ht2) f2 (by rw [List.length_map, sizeLine_eq]; show l.length + 1 ≤ _; omega) fun p3 h3 v3 g3 => ?_
    have e3 : l.map nV ++ [nV ch] = (l ++ [ch]).map nV := by rw [List.map_append]; rfl
    rw [e3] at g3
    refine ⟨p3, (l ++ [ch]).map fun x : Nat => (x : Int), rfl, .inr (by rw [← map_nV]; exact g3), by rw [List.length_map, List.length_append]; show l.length + 1 ≤ _; omega, fun S ms nd mem nS => ?_⟩
    have few := ms_few (n := 60) nd mem fun x hx => by
      rcases List.mem_append.mp hx with h | h
      · exact l60 x h
      · rw [List.mem_singleton.mp h]; omega
    refine ⟨S, _, ms.length, rfl, upd_same, by omega, fun ls L asc memL lenL nL => ?_⟩
    obtain ⟨ks, rfl, ascK, memK⟩ := ls_nats asc memL
    rw [← map_nV]
    rw [List.length_map] at lenL
    refine .inl ⟨L, _, rfl, .inl (.inl upd_same), fun q2 nq2 => ?_⟩
    have v4 := ((same_upd nS).trans (same_upd (o := .lst (ks.map nV)) nL)).trans (same_upd (o := .tup (ks.map nV)) nq2)
    have s14 := ((s1.trans v2).trans v3).trans v4
    refine ⟨_, rfl, t, _, rfl, same_seqT s14 ht2, fun q3 nq3 => ?_⟩
    have v5 := same_upd (o := .tup (l.map nV).reverse) nq3
    have s15 := s14.trans v5
    refine ⟨_, rfl, t, _, rfl, .inr (same_seqT s15 ht2), fun q4 nq4 => ?_⟩
    have nb4 := (B2.same s15).nb nq4
    have v6 := same_upd (o := .lst (l.map nV)) nq4
    have s16 := s15.trans v6
    refine ⟨_, rfl, by rw [sizeLine_eq]; show 5 ≤ 16777216; decide, fun L1 nL1 => ?_⟩
    have v7 := same_upd (o := .lst [.ref q1, .ref q2, .ref q3, .ref q4, .ref t]) nL1
    have s17 := s16.trans v7
    have nb1 := (B2.same s16).nb nL1
    -- the things so far
    have big : ∀ {H : Hp} {p : Addr} {xs : List V}, Same H2 H → SqT K H p xs → (∀ x ∈ xs, Thing K C b g H2 x) → xs.length ≤ 1000 → RThing K C b g H (.ref p) := fun s e th hl => RThing.many e (fun x m => (th x m).kp B2 (Kp.same s)) hl
    have nat1 : ∀ {xs : List Nat} (x : V), x ∈ xs.map nV → Thing K C b g H2 x := fun x hx => .sc (scal_nat hx)
    have e17 : ∀ {G : Hp}, G L1 = none → upd G L1 (.lst [.ref q1, .ref q2, .ref q3, .ref q4, .ref t]) L1 = some (.lst [.ref q1, .ref q2, .ref q3, .ref q4, .ref t]) := fun _ => upd_same
    have eL1 := e17 nL1
    have R1 := big s17 (same_seqT (((((v2.trans v3).trans v4).trans v5).trans v6).trans v7) g1) t1 (by omega)
    have R2 := big (xs := ks.map nV) s17 ((v5.trans v6).trans v7 |> fun s => same_seqT s (.inl (.inl upd_same))) nat1 (by rw [List.length_map]; omega)
    have R3 := big (xs := (l.map nV).reverse) s17 (same_seqT (v6.trans v7) (.inl (.inl upd_same))) (fun x hx => .sc (scal_nat (List.mem_reverse.mp hx))) (by rw [List.length_reverse, List.length_map]; omega)
    have R4 : RThing K C b g _ (.ref q4) := .lst (v7 _ _ upd_same) nb4.1 nb4.2
    have R5 := big (xs := l.map nV) s17 (same_seqT s17 ht2) nat1 (by rw [List.length_map]; omega)
    have A1 : ∀ x ∈ ([.ref q1, .ref q2, .ref q3, .ref q4, .ref t] : List V), RThing K C b g _ x := List.forall_mem_cons.mpr ⟨R1, List.forall_mem_cons.mpr ⟨R2, List.forall_mem_cons.mpr ⟨R3, List.forall_mem_cons.mpr ⟨R4, List.forall_mem_cons.mpr ⟨R5, fun x hx => nomatch hx⟩⟩⟩⟩⟩
    clear R1 R2 R3 R4 R5
    dsimp only [gName]
    refine st_eq (σ' := [some (.ref b), some (.ref t), some (nV n), some (.int r), some (nV ch), some (.ref L1)]) rfl ?_
    refine ⟨_, rfl, ?_⟩
    refine TupP.cat (K := K) (C := C) (b := b) (g := g) (n := 30) (m := 30) (rowP _ rfl) ?_ (by decide) _ s17 _ fun q5 h8 xs5 s8 g5 t5 w5 => ?_
    · intro H s Q k
      refine ⟨_, rfl, 1, rfl, _, rfl, ?_⟩
      dsimp only [tNoPart, Cx.nox]
      exact cutk s k
    have s28 := s17.trans s8
    refine TupP.cat (K := K) (C := C) (b := b) (g := g) (n := 30) (m := 1) (rowP _ rfl) (.one rfl (.sc rfl)) (by decide) _ s28 _ fun q6 h9 xs6 s9 g6 t6 w6 => ?_
    have s29 := s28.trans s9
    refine TupP.cat (K := K) (C := C) (b := b) (g := g) (n := 1) (m := 30) (.lit (v := .int (-1)) (fun H Q h => ⟨_, rfl, h⟩) (.sc rfl)) (rowP _ rfl) (by decide) _ s29 _ fun q7 hA xs7 sA g7 t7 w7 => ?_
    have s2A := s29.trans sA
    refine ⟨one, fun q8 n8 => ?_⟩
    have vB := same_upd (o := .tup [.bl true]) n8
    have s2B := s2A.trans vB
    refine fun q9 n9 => ⟨rfl, fun q10 xs10 hD sD nD eD => ⟨by rw [sizeLine_eq]; show 9 ≤ 16777216; decide, fun L2 nL2 => ?_⟩⟩
    have vC := same_upd (o := .dK []) n9
    have s2C := s2B.trans vC
    have s2D := s2C.trans sD
    have nbD := (B2.same s2C).nb nD
    have vE := same_upd (o := .lst [.ref q5, .ref q6, .ref q7, .ref q8, .non, .int 0, .str "", .ref q9, .ref q10]) nL2
    have s2E := s2D.trans vE
    have tB : Same _ _ := vB.trans (vC.trans (sD.trans vE))
    have tC : Same _ _ := vC.trans (sD.trans vE)
    have tD : Same _ _ := sD.trans vE
    have BE := B2.same s2E
    have R5 := big (xs := xs5) s2E (same_seqT (s9.trans (sA.trans tB)) g5) t5 (by omega)
    have R6 := big (xs := xs6) s2E (same_seqT (sA.trans tB) g6) t6 (by omega)
    have R7 := big (xs := xs7) s2E (same_seqT tB g7) t7 (by omega)
    have R8 := big (xs := [.bl true]) s2E (same_seqT tC (.inl (.inl upd_same))) (fun x hx => by rw [List.mem_singleton.mp hx]; exact .sc rfl) (by decide)
    have R9 : RThing K C b g _ (.ref q9) := .dct (tD _ _ upd_same)
    have R10 : RThing K C b g _ (.ref q10) := .lst (vE _ _ eD) nbD.1 nbD.2
    have A2 : ∀ x ∈ ([.ref q5, .ref q6, .ref q7, .ref q8, .non, .int 0, .str "", .ref q9, .ref q10] : List V), RThing K C b g _ x := List.forall_mem_cons.mpr ⟨R5, List.forall_mem_cons.mpr ⟨R6, List.forall_mem_cons.mpr ⟨R7, List.forall_mem_cons.mpr ⟨R8, List.forall_mem_cons.mpr ⟨.sc rfl, List.forall_mem_cons.mpr ⟨.sc rfl, List.forall_mem_cons.mpr ⟨.sc rfl, List.forall_mem_cons.mpr ⟨R9, List.forall_mem_cons.mpr ⟨R10, fun x hx => nomatch hx⟩⟩⟩⟩⟩⟩⟩⟩⟩
    clear R5 R6 R7 R8 R9 R10
    have t1E : Same _ _ := s8.trans (s9.trans (sA.trans tB))
    have eL1E := t1E _ _ eL1
    have B17 := B2.same s17
    have A1E := fun x hx => (A1 x hx).kp B17 (Kp.same t1E)
    have eL2 : ∀ {G : Hp}, G L2 = none → upd G L2 (.lst [.ref q5, .ref q6, .ref q7, .ref q8, .non, .int 0, .str "", .ref q9, .ref q10]) L2 = some (.lst [.ref q5, .ref q6, .ref q7, .ref q8, .non, .int 0, .str "", .ref q9, .ref q10]) := fun _ => upd_same
    refine ⟨L1, L2, _, _, rfl, rfl, eL1E, eL2 nL2, by rw [sizeLine_eq]; show 5 + 9 ≤ 16777216; decide, fun L3 nL3 => ?_⟩
    have vF := same_upd (o := .lst ([.ref q1, .ref q2, .ref q3, .ref q4, .ref t] ++ [.ref q5, .ref q6, .ref q7, .ref q8, .non, .int 0, .str "", .ref q9, .ref q10])) nL3
    have s2F := s2E.trans vF
    have A3 : ∀ x ∈ ([.ref q1, .ref q2, .ref q3, .ref q4, .ref t] ++ [.ref q5, .ref q6, .ref q7, .ref q8, .non, .int 0, .str "", .ref q9, .ref q10] : List V), RThing K C b g _ x := fun x hx => ((List.mem_append.mp hx).elim (A1E x) (A2 x)).kp BE (Kp.same vF)
    have eL3 : ∀ {G : Hp} {xs : List V}, G L3 = none → upd G L3 (.lst xs) L3 = some (.lst xs) := fun _ => upd_same
    have e3' := eL3 (xs := [.ref q1, .ref q2, .ref q3, .ref q4, .ref t] ++ [.ref q5, .ref q6, .ref q7, .ref q8, .non, .int 0, .str "", .ref q9, .ref q10]) nL3
    have BF := B2.same s2F
    dsimp only [gName]
    refine st_eq (σ' := [some (.ref b), some (.ref t), some (nV n), some (.int r), some (nV ch), some (.ref L3)]) rfl ?_
    refine ⟨_, rfl, ?_⟩
    refine TupP.cat (K := K) (C := C) (b := b) (g := g) (n := 30) (m := 1) (rowP _ rfl) (.lit (v := .non) (fun H Q h => h) (.sc rfl)) (by decide) _ s2F _ fun q11 hG xs11 sG g11 t11 w11 => ?_
    have s2G := s2F.trans sG
    refine ⟨_, rfl, one, fun q12 n12 => ⟨by rw [sizeLine_eq]; show 2 ≤ 16777216; decide, fun L4 nL4 => ?_⟩⟩
    have vH := same_upd (o := .tup [.ref t]) n12
    have vI := same_upd (o := .lst [.ref q11, .ref q12]) nL4
    have s2I := (s2G.trans vH).trans vI
    have tG : Same _ _ := sG.trans (vH.trans vI)
    refine ⟨L3, L4, _, _, rfl, rfl, tG _ _ e3', upd_same, by rw [sizeLine_eq]; show 14 + 2 ≤ 16777216; decide, fun L5 nL5 => ?_⟩
    have vJ := same_upd (o := .lst (([.ref q1, .ref q2, .ref q3, .ref q4, .ref t] ++ [.ref q5, .ref q6, .ref q7, .ref q8, .non, .int 0, .str "", .ref q9, .ref q10]) ++ [.ref q11, .ref q12])) nL5
    have s2J := s2I.trans vJ
    have nb5 := (B2.same s2I).nb nL5
    have tt : Thing K C b g H2 (.ref t) := .tup ht2 (fun x hx => scal_nat hx) (by rw [List.length_map]; omega)
    refine ⟨_, rfl, _, rfl, b, g, L5, _, rfl, B2.same s2J, upd_same, nb5.1, nb5.2, by show 0 < 16; decide, by show 16 < 1073741824; decide, fun v Hf hv Bf sbf => q v Hf Bf ((sb02.trans (SameB.of s2J)).trans sbf) ?_⟩
    rcases List.mem_append.mp hv with hv | hv
    · exact ((A3 v hv).kp BF (Kp.same (tG.trans vJ))).kp (B2.same s2J) (Kp.sameB sbf)
    · rcases List.mem_cons.mp hv with e | hv
      · rw [e]
        exact (big (xs := xs11) s2J (same_seqT ((vH.trans vI).trans vJ) g11) t11 (by omega)).kp (B2.same s2J) (Kp.sameB sbf)
      · rw [List.mem_singleton.mp hv]
        exact (big (xs := [.ref t]) s2J (same_seqT (vI.trans vJ) (.inl (.inl upd_same))) (fun x hx => by rw [List.mem_singleton.mp hx]; exact tt) (Nat.le_of_ble_eq_true rfl)).kp (B2.same s2J) (Kp.sameB sbf)
end
end Rip

/-! The law of what a write brings: what its looks say. -/
namespace Rip
open PySem PySem.Spec PyProof.Rows L2 RipS
/-- an if that only tells that something is wrong -/
theorem if_join {tt : TT} {r u : TS} {D : Ends} {σ : L2.St} {H : Hp} (Pv : Hp → Prop) (ht : ∀ Qb : Bool → Hp → Prop, (∀ H', Pv H' → Qb false H') → tt σ H Qb) (hu : ∀ H', Pv H' → u D σ H') : tSeq (tIfS tt r tNext) u D σ H :=
  ht _ fun H' p => by
    rw [if_neg (by simp)]
    exact hu H' p
theorem if_last {tt : TT} {r : TS} {D : Ends} {σ : L2.St} {H : Hp} (Pv : Hp → Prop) (ht : ∀ Qb : Bool → Hp → Prop, (∀ H', Pv H' → Qb false H') → tt σ H Qb) (hu : ∀ H', Pv H' → D.nx σ H') : tIfS tt r tNext D σ H :=
  ht _ fun H' p => by
    rw [if_neg (by simp)]
    exact hu H' p
theorem set_join {te : TE} {i : Nat} {u : TS} {D : Ends} {σ : L2.St} {H : Hp} (Pv : V → Hp → Prop) (he : ∀ Q : VK, (∀ v H', Pv v H' → Q v H') → te σ H Q) (hu : ∀ v H', Pv v H' → u D (σ.set i (some v)) H') : tSeq (tAsg te (gName i)) u D σ H := he _ hu
theorem ripe_eq {bl : List Nat} {ns : List (Nat × Nat)} {f l R ks : List Nat} (F : FarsOf bl.length ns f) (ri : LRi bl ns l R) (asc : ks.Pairwise (· < ·)) (mem : ∀ x, x ∈ ks ↔ x ∈ bl) : ripeKs f bl ks (maskOf l) = R := by
  unfold ripeKs
  refine asc_same (asc.filter _) ri.1 fun x => ?_
  rw [List.mem_filter, decide_eq_true_eq, mem, ri.2]
  refine ⟨fun ⟨h1, h2⟩ => ⟨h1, fun r br e => h2 (br_zero F (e ▸ br))⟩, fun ⟨h1, h2⟩ => ⟨h1, fun e => ?_⟩⟩
  have z := LBr.lots (l := l) (b := x) F
  exact h2 _ z (by rw [e, lotOf_zero])
theorem ripe_empty {bl : List Nat} {ns : List (Nat × Nat)} {f l R : List Nat} (F : FarsOf bl.length ns f) (hb : ∀ p ∈ ns, p.1 < bl.length ∧ p.2 < bl.length) (asc : l.Pairwise (· < ·)) (hin : ∀ c ∈ l, c < bl.length) (ri : LRi bl ns l R) : decide (R = []) = decide (l.length = bl.length) := by
  have le : l.length ≤ bl.length := nodup_below (asc.imp fun h => by omega) hin
  refine decide_eq_decide.mpr ⟨fun e => ?_, fun e => ?_⟩
  · have T : maskOf l = 2 ^ bl.length - 1 := full_of_none F hb (maskOf_lt hin) fun x hx r br => by
      rw [lot_mask asc] at br
      by_cases y : r = []
      · exact y
      · have z := (ri.2 x).mpr ⟨hx, fun r2 b2 => by rw [← br.uniq b2]; exact y⟩
        rw [e] at z
        cases z
    have w := sub_len (l := List.range bl.length) (m := l) List.nodup_range fun c hc => by
      have b : (maskOf l).testBit c = true := by
        rw [T, Nat.testBit_two_pow_sub_one]
        exact decide_eq_true (List.mem_range.mp hc)
      rw [bit_maskOf] at b
      exact of_decide_eq_true b
    rw [List.length_range] at w
    omega
  · cases R with
    | nil => rfl
    | cons x R =>
      exfalso
      have h := ((ri.2 x).mp List.mem_cons_self).2 [] ⟨.nil, fun c => ⟨(fun h => nomatch h), fun ⟨h1, h2, _⟩ => ?_⟩⟩
      · exact h rfl
      · have hc := (List.getElem?_eq_some_iff.mp h1).1
        have nd : (c :: l).Nodup := List.nodup_cons.mpr ⟨h2, asc.imp fun h => by omega⟩
        have z := nodup_below (n := bl.length) nd fun y hy => by
          rcases List.mem_cons.mp hy with rfl | hy
          · exact hc
          · exact hin y hy
        rw [List.length_cons] at z
        omega
/-- what comes comes also when more is there -/
theorem comes_more {bl : List Nat} {ns : List (Nat × Nat)} {l m r s : List Nat} {b c : Nat} (lm : ∀ x ∈ l, x ∈ m) (br : LBr bl ns l b r) (bs : LBr bl ns m b s) (hc : c ∈ r) : c ∈ m ∨ c ∈ s := by
  by_cases y : c ∈ m
  · exact .inl y
  · have z := (br.2 c).mp hc
    exact .inr ((bs.2 c).mpr ⟨z.1, y, fun o fo => (z.2.2 o fo).elim (fun h => .inl (lm o h)) .inr⟩)
/-- whether a bent thing is a standing, for the law and for the program alike -/
theorem RThing.stand {K : PySem.W.Frag} {C b g : Addr} {H : Hp} {v : V} {bl : List Nat} {ns : List (Nat × Nat)} {f : List Nat} (t : RThing K C b g H v) (I : BkI K C) (B : BagAt H b g) (F : FarsOf bl.length ns f) :
    ∃ ok : Bool, (∀ H', Kp b g H H' → ∀ Q : VK, (∀ H2, Same H' H2 → Q (.bl ok) H2) → ∃ tp, ObT K H' v tp ∧ (tp = false → Q (.bl false) H') ∧
        (tp = true → ∃ (t : Addr) (xs : List V), v = .ref t ∧ SqT K H' t xs ∧ xs.length ≤ 900000 ∧ (∀ x ∈ xs, ∀ H2, Same H' H2 → Ob K H2 x) ∧ (lotGo bl.length (-1) xs = false → ∀ H2, Same H' H2 → Q (.bl false) H2) ∧
          ∀ l : List Nat, xs = l.map nV → l.Pairwise (· < ·) → (∀ c ∈ l, c < bl.length) → ∀ H2, Same H' H2 → Q (.bl (shutB ns l)) H2)) ∧
      ∀ H', Kp b g H H' → ∀ Q : VK, (∀ H2, Same H' H2 → Q (.bl ok) H2) → ∃ tp, ObT K H' v tp ∧ (tp = false → Q (.bl false) H') ∧
        (tp = true → ∃ (t : Addr) (xs : List V), v = .ref t ∧ SqT K H' t xs ∧ (∀ x ∈ xs, Ob K H' x) ∧ (lotGo bl.length (-1) xs = false → Q (.bl false) H') ∧
          ∀ l : List Nat, xs = l.map nV → l.Pairwise (· < ·) → (∀ c ∈ l, c < bl.length) → ∀ H2, Same H' H2 → Q (.bl (closedB f l)) H2) := by
  have kind : (∀ H', Kp b g H H' → ObT K H' v false) ∨ ∃ a xs, v = .ref a ∧ SqT K H a xs ∧ (∀ x ∈ xs, Thing K C b g H x) ∧ xs.length ≤ 1000 := by
    cases t with
    | sc h => exact .inl fun _ _ => scal_obt h
    | lst h h1 h2 => exact .inl fun H' k => ⟨_, .base (.lst (k _ _ h h1 h2 fun ps e => by cases e)), kit_ty (show kitB "list" "tuple" = some false by decide +kernel)⟩
    | dct h => exact .inl fun H' k => ⟨_, .base (.dK (k _ _ h (B.off h fun xs e => by cases e).1 (B.off h fun xs e => by cases e).2 fun ps e => by cases e)), kit_ty (show kitB "dict" "tuple" = some false by decide +kernel)⟩
    | ins h => exact .inl fun H' k => ⟨_, I.ty _ _ _ _ (k _ _ h (B.off h fun xs e => by cases e).1 (B.off h fun xs e => by cases e).2 fun ps e => by cases e), I.t⟩
    | many h hx hl => exact .inr ⟨_, _, rfl, h, hx, hl⟩
  rcases kind with h | ⟨a, xs, rfl, hS, hx, hl⟩
  · exact ⟨false, fun H' k Q hq => ⟨false, h H' k, fun _ => hq H' (Same.refl H'), fun z => nomatch z⟩, fun H' k Q hq => ⟨false, h H' k, fun _ => hq H' (Same.refl H'), fun z => nomatch z⟩⟩
  · have hl := hl
    have ty : ∀ H', Kp b g H H' → ObT K H' (.ref a) true := fun H' k => ⟨_, tyx_tup (seqT_kp B k hS), kit_ty (by decide +kernel)⟩
    have ob : ∀ H', Kp b g H H' → ∀ x ∈ xs, ∀ H2, Same H' H2 → Ob K H2 x := fun H' k x m H2 s => ((hx x m).kp B (k.trans (Kp.same s))).ob I
    cases e : lotGo bl.length (-1) xs with
    | false =>
      have nol : ∀ l : List Nat, xs = l.map nV → l.Pairwise (· < ·) → (∀ c ∈ l, c < bl.length) → False := fun l ex asc hin => by
        subst ex
        rw [lotGo_map bl.length l (-1) asc fun i hi => ⟨hin i hi, by omega⟩] at e
        cases e
      exact ⟨false, fun H' k Q hq => ⟨true, ty H' k, (fun z => nomatch z), fun _ => ⟨a, xs, rfl, seqT_kp B k hS, by omega, ob H' k, fun _ H2 s => hq H2 s, fun l ex asc hin => absurd (nol l ex asc hin) id⟩⟩,
        fun H' k Q hq => ⟨true, ty H' k, (fun z => nomatch z), fun _ => ⟨a, xs, rfl, seqT_kp B k hS, fun x m => ob H' k x m H' (Same.refl H'), fun _ => hq H' (Same.refl H'), fun l ex asc hin => absurd (nol l ex asc hin) id⟩⟩⟩
    | true =>
      obtain ⟨l, rfl, asc, hin0⟩ := lotGo_nat bl.length xs (-1) e
      have hin : ∀ c ∈ l, c < bl.length := fun c m => (hin0 c m).1
      refine ⟨shutB ns l, fun H' k Q hq => ⟨true, ty H' k, (fun z => nomatch z), fun _ => ⟨a, _, rfl, seqT_kp B k hS, by omega, ob H' k, fun z => (by rw [e] at z; cases z), fun m em _ _ H2 s => ?_⟩⟩,
        fun H' k Q hq => ⟨true, ty H' k, (fun z => nomatch z), fun _ => ⟨a, _, rfl, seqT_kp B k hS, fun x m => ob H' k x m H' (Same.refl H'), fun z => (by rw [e] at z; cases z), fun m em _ _ H2 s => ?_⟩⟩⟩
      · rw [← nat_inj em]
        exact hq H2 s
      · rw [← nat_inj em, closed_shut F hin]
        exact hq H2 s
def tupD (l : List Nat) : PyData := .tuple (l.map fun x : Nat => PyData.int (x : Int))
theorem TupsAt.dp {K : PySem.W.Frag} {H : Hp} {L : Addr} {M : List (List Nat)} (h : TupsAt K H L M) : Dp K H (.ref L) (.list (M.map tupD)) := by
  obtain ⟨rs, h1, h2, h3⟩ := h
  refine .lst (.inl (.inl h1)) ?_
  clear h1
  induction rs generalizing M with
  | nil =>
    cases M with
    | nil => exact .nil
    | cons m M => cases h2
  | cons r rs ih =>
    cases M with
    | nil => cases h2
    | cons m M =>
      exact .cons (.tup (h3 0 r m rfl rfl) (dpAll_nats m)) (ih (by simpa using h2) fun i r x e1 e2 => h3 (i + 1) r x e1 e2)
theorem tups_lay : ∀ M : List (List Nat), PyData.canLayAll0 (M.map tupD) = true
  | [] => by simp [PyData.canLayAll0]
  | m :: M => by
    have z := ints_shapedT m
    unfold SeqAt.shaped at z
    rw [Bool.and_eq_true] at z
    rw [List.map_cons]
    simp only [PyData.canLayAll0, tups_lay M, Bool.and_true]
    exact z.1
theorem ints_depth : ∀ l : List Nat, PyData.depthAll (l.map fun x : Nat => PyData.int (x : Int)) ≤ 1
  | [] => by simp [PyData.depthAll]
  | x :: l => by
    have := ints_depth l
    simp only [List.map_cons, PyData.depthAll, PyData.depth]
    omega
theorem tups_depth : ∀ M : List (List Nat), PyData.depthAll (M.map tupD) ≤ 3
  | [] => by simp [PyData.depthAll]
  | m :: M => by
    have h1 := tups_depth M
    have h2 := ints_depth m
    simp only [List.map_cons, PyData.depthAll, tupD, PyData.depth]
    omega
theorem tups_shaped (M : List (List Nat)) : SeqAt.shaped (.list (M.map tupD)) = true := by
  have h1 := tups_depth M
  have h2 : PyData.depth (.list (M.map tupD)) ≤ 64 := by
    simp only [PyData.depth]
    omega
  show (PyData.canLay0 (.list (M.map tupD)) && decide (PyData.depth (.list (M.map tupD)) ≤ 64)) = true
  rw [Bool.and_eq_true]
  exact ⟨by simp only [PyData.canLay0]; exact tups_lay M, decide_eq_true h2⟩
theorem tups_in {M : List (List Nat)} {r : List Nat} (h : r ∈ M) : ((M.map tupD).any fun z => PyData.eqv z (tupD r)) = true := by
  rw [List.any_eq_true]
  exact ⟨tupD r, List.mem_map.mpr ⟨r, h, rfl⟩, by unfold tupD; rw [eqv_natsT]; exact decide_eq_true rfl⟩
theorem rep_false (n : Nat) : (List.replicate n false).any id = false := by
  rw [List.any_eq_false]
  intro x hx
  rw [(List.mem_replicate.mp hx).2]
  exact fun z => nomatch z
theorem rep_true (n : Nat) : (List.replicate n true).all id = true := by
  rw [List.all_eq_true]
  intro x hx
  exact (List.mem_replicate.mp hx).2
theorem rep_snoc {H : Hp} {D : Addr} {n : Nat} {b : Bool} {v : V} (e : v = .bl b) : upd H D (.lst ((List.replicate n b).map V.bl ++ [v])) D = some (.lst ((List.replicate (n + 1) b).map V.bl)) := by
  rw [upd_same, List.replicate_succ', List.map_append, e]
  rfl
/-- sorted(set(t)) of a tuple of numbers below 60 -/
theorem ss_of {K : PySem.W.Frag} {w : World} {σ : L2.St} {H : Hp} {Q : VK} {i : Nat} {mt : Addr} {bl : List Nat} (hi : σ[i]? = some (some (.ref mt))) (h : SqT K H mt (bl.map nV)) (hl : bl.length ≤ 1000) (h60 : ∀ x ∈ bl, x < 60)
    (q : ∀ (ks : List Nat) (L : Addr) (H' : Hp), Same H H' → H L = none → H' L = some (.lst (ks.map nV)) → ks.Pairwise (· < ·) → (∀ x, x ∈ ks ↔ x ∈ bl) → Q (.ref L) H') :
    tCB (rSortedSet w) (tCons (tCB (rSetI K w) (tCons (tVar i) tNil)) tNil) σ H Q := by
  refine ⟨_, hi, mt, bl.map (fun x : Nat => (x : Int)), rfl, .inr (by rw [← map_nV]; exact h), by rw [List.length_map]; omega, fun S ms nd mem nS => ?_⟩
  have few := ms_few (n := 60) nd mem h60
  refine ⟨S, _, ms.length, rfl, upd_same, by omega, fun ls L ascL memL lenL nL => ?_⟩
  obtain ⟨kb, rfl, ascB, memB⟩ := ls_nats ascL memL
  rw [← map_nV]
  exact q kb L _ ((same_upd nS).trans (same_upd (o := .lst (kb.map nV)) nL)) ((same_upd nS).free nL) upd_same ascB memB
theorem next_go {D : Ends} {σ : L2.St} {H : Hp} (h : D.nx σ H) : tNext D σ H := h
end Rip

/-! The law of what a write brings. -/
namespace Rip
open PySem PySem.Spec PyProof.Rows L2 RipS
theorem Room.units65 {k : Nat} {A : Around} (r : Room k A) : A.units + 65 < cLine := by have := r.un; omega
abbrev spIsQ (K : PySem.W.Frag) : Sp := fun vs H Q E => spLeafB vs H Q E ∨ spIsTwo K vs H Q E
abbrev s_law : Stmt := top 48
abbrev scLwN : List Str := ["_law_script", "_law_bag_here", "_law_turn", "_law_blocks", "_law_needs_here", "_law_book", "_law_many", "_law_there", "_law_more", "_law_told", "_law_block", "_law_due", "_law_lots", "_law_change", "_law_lot", "_law_again", "_law_thing"]
theorem scLw : FnScope scLwN ["_law_script"] (defScope s_law) := ⟨rfl, rfl, rfl, by decide +kernel, rfl, by decide +kernel, by decide +kernel⟩
def spLaw (K : PySem.W.Frag) : Sp := fun vs H Q _ => ∃ (a : Addr) (ns : List Int), vs = [.ref a] ∧ SqL K H a (ns.map V.int) ∧ ns.length ≤ 63 ∧ ∀ H', Q (.bl true) H'
section
variable {P : Program} {w : World} {K : PySem.W.Frag} {mg : Str → Option Value} {base : Heap}
theorem ok_law {f C CS CB fI fC fF fB1 fN fD1 : Addr} {fd fdI fdC fdF fdB1 fdN fdD1 : FuncData}
    (F : Fun K "law" "law" s_law f fd) (B : Blt mg) (nst : mg "set" = none) (nsr : mg "sorted" = none) (nany : mg "any" = none) (I : BkI K C)
    (m : MkB K mg C fI fC fF fB1 fN fD1 fdI fdC fdF fdB1 fdN fdD1)
    (hB : Has P w K mg base CX0 1 "_law_bag" ["_law_script"] (spBag K))
    (hP : Has P w K mg base CX0 1 "_law_pick" ["_law_bag_here", "_law_many"] spPick) (hR : Has P w K mg base CX0 3 "_law_parts" ["_law_bag_here", "_law_most", "_law_blocks"] (spParts K))
    (hCl : Has P w K mg base CX0 2 "_law_closed" ["_law_bag_here", "_law_blocks", "_law_needs_here"] (spClosed K)) (hBr : Has P w K mg base CX0 1 "_law_brought" ["_law_blocks", "_law_needs_here", "_law_there", "_law_block"] (spLbr K))
    (hLr : Has P w K mg base CX0 2 "_law_ripe" ["_law_blocks", "_law_needs_here", "_law_there"] (spLri K)) (hAl : Has P w K mg base CX0 1 "_law_all_lots" ["_law_blocks", "_law_needs_here", "_law_there", "_law_block"] (spLal K))
    (hBs : Has P w K mg base CX0 3 "_law_bent" ["_law_bag_here", "_law_there", "_law_many"] (spLbs K C)) (hLs : Has P w K mg base CX0 3 "_law_is_standing" ["_law_blocks", "_law_needs_here", "_law_thing"] (spLawSt K))
    (hGr : Has P w K mg base CX0 8 "_law_great_right" ["_law_bag_here"] spLgr) (hIs : Has P w K mg base CX0 2 "_law_is" ["_law_thing", "_law_due"] (spIsQ K)) (hSt : Has P w K mg base CX0 5 "is_standing" ["book", "thing"] (spIsSt K C))
    (hCo : Has P w K mg base (L2.CX P w) 7 "comes" ["book", "standing", "block"] (spComes K C CS CB)) (hRi : Has P w K mg base (L2.CX P w) 7 "ripe" ["book", "standing"] (spRipe K C CS)) :
    FnOk P w K mg base CX0 9 f fd ["_law_script"] (spLaw K) := by
  obtain ⟨fB, fdB, GB, kB, bB, gB⟩ := hB
  obtain ⟨fP, fdP, GP, kP, bP, gP⟩ := hP
  obtain ⟨fR, fdR, GR, kR, bR, gR⟩ := hR
  obtain ⟨fCl, fdCl, GCl, kCl, bCl, gCl⟩ := hCl
  obtain ⟨fBr, fdBr, GBr, kBr, bBr, gBr⟩ := hBr
  obtain ⟨fLr, fdLr, GLr, kLr, bLr, gLr⟩ := hLr
  obtain ⟨fAl, fdAl, GAl, kAl, bAl, gAl⟩ := hAl
  obtain ⟨fBs, fdBs, GBs, kBs, bBs, gBs⟩ := hBs
  obtain ⟨fLs, fdLs, GLs, kLs, bLs, gLs⟩ := hLs
  obtain ⟨fGr, fdGr, GGr, kGr, bGr, gGr⟩ := hGr
  obtain ⟨fIs, fdIs, GIs, kIs, bIs, gIs⟩ := hIs
  obtain ⟨fSt, fdSt, GSt, kSt, bSt, gSt⟩ := hSt
  obtain ⟨fCo, fdCo, GCo, kCo, bCo, gCo⟩ := hCo
  obtain ⟨fRi, fdRi, GRi, kRi, bRi, gRi⟩ := hRi
  have GN : FnOk P w K mg base CX0 6 fI fdI ["self", "blocks", "needs"] (spInitB K C) := m.init
  refine F.ok scLw (fun vs H Q E h => ?_) (fun cdv A outer s H vs Q E hr h => ?_)
  · obtain ⟨a, ns, rfl, _⟩ := h
    rfl
  · obtain ⟨a, ns, rfl, hS, hlen, q⟩ := h
    refine ⟨_,
      (pss_cons (ps_set (i := 1) scLw.nd rfl (.inl rfl) (pe_call GB (hr.mono (by decide)) (by rfl) gB kB bB .nil pass0 (pa_cons (pv 0) pa_nil)))
      (pss_cons (ps_if (pw_and (pt_cmpR op_eq (pe_call GP (hr.mono (by decide)) (by rfl) gP kP bP .nil pass0 (pa_cons (pv 1) (pa_cons pe_int pa_nil))) pe_int (nomark _)) (pw_and1 (pt_not (pt_val (pe_call GGr (hr.mono (by decide)) (by rfl) gGr kGr bGr .nil pass0 (pa_cons (pv 1) pa_nil)))))).pt (pss_one (ps_ret pe_bl)) pss_nil)
      (pss_cons (ps_for PassesOwn.never rfl (pi_range1 rfl B.range (pa_cons pe_int pa_nil)) (pg_name (i := 2) scLw.nd rfl (.inl rfl))
        (pss_cons (ps_asg (pe_call GR (hr.mono (by decide)) (by rfl) gR kR bR .nil pass0 (pa_cons (pv 1) (pa_cons pe_int (pa_cons pe_int pa_nil)))) (pg_tup rfl (pgs_cons (pg_name (i := 3) scLw.nd rfl (.inl rfl)) (pgs_cons (pg_name (i := 4) scLw.nd rfl (.inl rfl)) pgs_nil))))
        (pss_cons (ps_asg (pe_tup (pa_cons (pe_make m.M GN (hr.mono (by decide)) (by rfl) m.T.g m.bI .nil pass0 (pa_cons (pv 3) (pa_cons (pv 4) pa_nil))) (pa_cons (pe_callB call_len_seq (by rfl) B.len PySem.boot_len (pa_cons (pv 3) pa_nil)) pa_nil))) (pg_tup rfl (pgs_cons (pg_name (i := 5) scLw.nd rfl (.inr rfl)) (pgs_cons (pg_name (i := 6) scLw.nd rfl (.inl rfl)) pgs_nil))))
        (pss_cons (ps_set (i := 7) scLw.nd rfl (.inl rfl) (pe_call GCl (hr.mono (by decide)) (by rfl) gCl kCl bCl .nil pass0 (pa_cons (pv 1) (pa_cons (pv 3) (pa_cons (pv 4) pa_nil)))))
        (pss_cons (ps_set (i := 8) scLw.nd rfl (.inr rfl) (pe_tupleOf (by rfl) B.tuple (pe_callB (cr_sortedSet rfl) (by rfl) nsr boot_sortedI (pa_cons (pe_callTy (cr_setI rfl) (by rfl) nst boot_setI (pa_cons (pe_op op_catA (pv 7) (pe_call GCl (hr.mono (by decide)) (by rfl) gCl kCl bCl .nil pass0 (pa_cons (pv 1) (pa_cons (pv 3) (pa_cons (pv 4) pa_nil))))) pa_nil)) pa_nil))))
        (pss_cons (ps_set (i := 9) scLw.nd rfl (.inl rfl) (pe_call GRi (hr.mono (by decide)) (by rfl) gRi kRi bRi .nil pass1 (pa_cons (pv 5) (pa_cons (pv 7) pa_nil))))
        (pss_cons (ps_if (pw_or (pt_not (pt_val (pe_call GIs (hr.mono (by decide)) (by rfl) gIs kIs bIs .nil pass0 (pa_cons (pv 9) (pa_cons (pe_call GLr (hr.mono (by decide)) (by rfl) gLr kLr bLr .nil pass0 (pa_cons (pv 3) (pa_cons (pv 4) (pa_cons (pv 7) pa_nil)))) pa_nil))))) (pw_or1 (pt_cmpR op_ne (pe_cmpR (op_eqD hr.units) (pv 9) (pe_tup pa_nil) (nomark _)) (pe_cmpR op_eq (pe_callB call_len_seq (by rfl) B.len PySem.boot_len (pa_cons (pv 7) pa_nil)) (pv 6) (nomark _)) (nomark _)))).pt (pss_one (ps_ret pe_bl)) pss_nil)
        (pss_cons (ps_for PassesOwn.never rfl (pi_list (pe_callB (cr_sortedSet rfl) (by rfl) nsr boot_sortedI (pa_cons (pe_callTy (cr_setI rfl) (by rfl) nst boot_setI (pa_cons (pv 3) pa_nil)) pa_nil))) (pg_name (i := 10) scLw.nd rfl (.inr rfl))
          (pss_cons (ps_set (i := 11) scLw.nd rfl (.inr rfl) (pe_call GBr (hr.mono (by decide)) (by rfl) gBr kBr bBr .nil pass0 (pa_cons (pv 3) (pa_cons (pv 4) (pa_cons (pv 7) (pa_cons (pv 10) pa_nil))))))
          (pss_cons (ps_if (pt_not (pt_val (pe_call GIs (hr.mono (by decide)) (by rfl) gIs kIs bIs .nil pass0 (pa_cons (pe_call GCo (hr.mono (by decide)) (by rfl) gCo kCo bCo .nil pass1 (pa_cons (pv 5) (pa_cons (pv 7) (pa_cons (pv 10) pa_nil)))) (pa_cons (pv 11) pa_nil))))) (pss_one (ps_ret pe_bl)) pss_nil)
          (pss_cons (ps_if (pt_cmpR op_lt (pv 6) pe_int (nomark _)) (pss_cons (ps_set (i := 12) scLw.nd rfl (.inl rfl) (pe_call GAl (hr.mono (by decide)) (by rfl) gAl kAl bAl .nil pass0 (pa_cons (pv 3) (pa_cons (pv 4) (pa_cons (pv 7) (pa_cons (pv 10) pa_nil)))))) (pss_one (ps_if (pw_or (pt_cmpR (op_notInD (Room.units65 hr)) (pv 11) (pv 12) (by with_unfolding_all rfl)) (pw_or1 (pt_val (pe_callB (cr_any rfl) (by rfl) nany PyProof.Rows.boot_any (pa_cons (pe_lc (own := [("_law_lot", 14)]) (g := gName 14) (tt := tYes) (te := (tNotV (tCB (rAll K) (tCons (tLc (iTup K (tVar 14)) (gName 13) tYes (tOp (rIn K false) (tVar 13) (tVar 11)) [13]) tNil)))) rfl scLw.nd (pi_list (pv 12)) (blkOk_by (own := [("_law_lot", 14)]) (N := scLwN) (sc := defScope s_law) (by decide +kernel)) (fun _ _ _ _ _ => (pg_name (i := 14) scLw.nd rfl (.inl rfl))) (fun _ _ _ _ _ => pts_nil) (fun _ _ _ _ _ => (pe_not (pe_callB (cr_all rfl) (by rfl) B.all PyProof.Rows.boot_all (pa_cons (pe_lc (own := [("_law_change", 13)]) (g := gName 13) (tt := tYes) (te := (tOp (rIn K false) (tVar 13) (tVar 11))) rfl scLw.nd (pi_tup (pv 14)) (blkOk_by (own := [("_law_change", 13)]) (N := scLwN) (sc := { kind := .function, names := [(".0", .local), ("_law_lot", .local), ("all", .globalImplicit), ("_law_due", .cell)], isGenerator := false, isCoroutine := false }) (by decide +kernel)) (fun _ _ _ _ _ => (pg_name (i := 13) scLw.nd rfl (.inl rfl))) (fun _ _ _ _ _ => pts_nil) (fun _ _ _ _ _ => (pe_cmpR op_in_seq (pv 13) (pv 11) (by with_unfolding_all rfl)))) pa_nil))))) pa_nil))))).pt (pss_one (ps_ret pe_bl)) pss_nil))) pss_nil)
          (pss_one (ps_if (pt_val (pe_callB (cr_any rfl) (by rfl) nany PyProof.Rows.boot_any (pa_cons (pe_lc (own := [("_law_change", 13)]) (g := gName 13) (tt := tYes) (te := (tAndV (tOp (rIn K true) (tVar 13) (tVar 8)) (tOp (rIn K true) (tVar 13) (tCall (spComes K C CS CB) [] E0 (tCons (tVar 5) (tCons (tVar 8) (tCons (tVar 10) tNil))))))) rfl scLw.nd (pi_tup (pv 11)) (blkOk_by (own := [("_law_change", 13)]) (N := scLwN) (sc := defScope s_law) (by decide +kernel)) (fun _ _ _ _ _ => (pg_name (i := 13) scLw.nd rfl (.inl rfl))) (fun _ _ _ _ _ => pts_nil) (fun _ _ _ _ _ => (pe_and (pe_cmpR op_notIn_seq (pv 13) (pv 8) (by with_unfolding_all rfl)) (pe_one (pe_cmpR op_notIn_seq (pv 13) (pe_call GCo (hr.mono (by decide)) (by rfl) gCo kCo bCo .nil pass1 (pa_cons (pv 5) (pa_cons (pv 8) (pa_cons (pv 10) pa_nil)))) (by with_unfolding_all rfl)))))) pa_nil))) (pss_one (ps_ret pe_bl)) pss_nil))))))
        (pss_one (ps_for PassesOwn.never rfl (pi_range1 rfl B.range (pa_cons pe_int pa_nil)) (pg_name (i := 15) scLw.nd rfl (.inl rfl))
          (pss_cons (ps_set (i := 16) scLw.nd rfl (.inl rfl) (pe_call GBs (hr.mono (by decide)) (by rfl) gBs kBs bBs .nil pass0 (pa_cons (pv 1) (pa_cons (pv 7) (pa_cons (pv 6) pa_nil)))))
          (pss_one (ps_if (pt_not (pt_val (pe_call GIs (hr.mono (by decide)) (by rfl) gIs kIs bIs .nil pass0 (pa_cons (pe_call GSt (hr.mono (by decide)) (by rfl) gSt kSt bSt .nil pass0 (pa_cons (pv 5) (pa_cons (pv 16) pa_nil))) (pa_cons (pe_call GLs (hr.mono (by decide)) (by rfl) gLs kLs bLs .nil pass0 (pa_cons (pv 3) (pa_cons (pv 4) (pa_cons (pv 16) pa_nil)))) pa_nil))))) (pss_one (ps_ret pe_bl)) pss_nil)))))))))))))
      (pss_one (ps_ret pe_bl)))))
      , ?_⟩
    have one : 1 ≤ sizeLine := by rw [sizeLine_eq]; decide
    have two : 2 ≤ sizeLine := by rw [sizeLine_eq]; decide
    refine ⟨_, rfl, a, ns, rfl, hS, hlen, fun b g H1 s1 nb ng BA => ?_⟩
    dsimp only [gName]
    refine st_eq (σ' := [some (.ref a), some (.ref b), none, none, none, none, none, none, none, none, none, none, none, none, none, none, none]) rfl ?_
    refine if_join (fun H' => BagAt H' b g) (fun Qb kq => ?_) ?_
    · refine ⟨_, rfl, b, g, 24, rfl, BA, by decide, by decide, fun r H2 r0 r1 B2 sb2 => ⟨rfl, _, rfl, ?_⟩⟩
      refine ite_ok (fun hz => ⟨_, rfl, b, g, rfl, B2, fun H3 B3 sb3 => ⟨_, rfl, kq _ B3⟩⟩) fun hz => kq _ B2
    intro H1' BA'
    refine ⟨4, rfl, by decide, by decide, for_range (n := 4) (fun i σ H2 => ∃ z2 z3 z4 z5 z6 z7 z8 z9 z10 z11 z12 z13 z14 z15 z16 : Option V, σ = [some (.ref a), some (.ref b), z2, z3, z4, z5, z6, z7, z8, z9, z10, z11, z12, z13, z14, z15, z16] ∧ BagAt H2 b g)
      ⟨_, _, _, _, _, _, _, _, _, _, _, _, _, _, _, rfl, BA'⟩ ?_ ?_⟩
    rotate_left
    · rintro σ H2 ⟨z2, z3, z4, z5, z6, z7, z8, z9, z10, z11, z12, z13, z14, z15, z16, rfl, _⟩
      exact q H2
    rintro i σ H2 hi ⟨z2, z3, z4, z5, z6, z7, z8, z9, z10, z11, z12, z13, z14, z15, z16, rfl, B2⟩
    refine ⟨_, rfl, b, g, 9, 5, rfl, B2, by decide, by decide, by decide, fun T mt na bl ns2 H3 BA3 sb3 nT eT emt PA R no ll => ?_⟩
    refine ⟨T, _, rfl, .inl (.inl eT), rfl, _, _, rfl, _, [], rfl, rfl, ?_⟩
    refine st_eq (σ' := [some (.ref a), some (.ref b), some (.int (0 + (i : Int))), some (.ref mt), some (.ref na), z5, z6, z7, z8, z9, z10, z11, z12, z13, z14, z15, z16]) rfl ?_
    have hmt : SqT K H3 mt (bl.map nV) := .inl (.inl emt)
    refine ⟨_, rfl, _, rfl, fun p dx np ndx pdx => ?_⟩
    have s3 : Same H3 (upd (upd H3 dx (.own p)) p (.ins C dx [])) := (same_upd ndx).trans (same_upd (by rw [upd_ne pdx.symm]; exact np))
    have hp3 : upd (upd H3 dx (.own p)) p (.ins C dx []) p = some (.ins C dx []) := upd_same
    generalize upd (upd H3 dx (.own p)) p (.ins C dx []) = H4 at s3 hp3 ⊢
    refine ⟨p, dx, mt, na, bl, ns2, rfl, hp3, same_seqT s3 hmt, PA.same s3, R, fun c _ => no c, fun fs H5 hk ex => ⟨rfl, ?_⟩⟩
    have s35 : Same H3 H5 := fun c o h => ex c o (s3 c o h) (ne_of_none h np)
    refine ⟨_, rfl, mt, _, rfl, .inr (same_seqT s35 hmt), two, fun tp ntp => ?_⟩
    refine ⟨tp, _, rfl, .inl (.inl upd_same), rfl, _, _, rfl, _, [], rfl, rfl, ?_⟩
    refine st_eq (σ' := [some (.ref a), some (.ref b), some (.int (0 + (i : Int))), some (.ref mt), some (.ref na), some (.ref p), some (nV bl.length), z7, z8, z9, z10, z11, z12, z13, z14, z15, z16]) (by rw [List.length_map]; rfl) ?_
    have s6 : Same H5 (upd H5 tp (.tup [.ref p, .int ((bl.map nV).length : Nat)])) := same_upd ntp
    have B6 := (BA3.same s35).same s6
    have hk6 := hk.same s6
    have hm6 := same_seqT (s35.trans s6) hmt
    have PA6 := PA.same (s35.trans s6)
    generalize upd H5 tp (.tup [.ref p, .int ((bl.map nV).length : Nat)]) = H6 at B6 hk6 hm6 PA6 ⊢
    have hn9 : bl.length ≤ 9 := ll
    have h60 : ∀ x ∈ bl, x < 60 := fun x hx => by have := R.blk x hx; omega
    have hns : ns2.length ≤ 4000 := R.nfew
    have hbn : ∀ z ∈ ns2, z.1 < bl.length ∧ z.2 < bl.length := fun z hz => ⟨(R.inn z hz).1, (R.inn z hz).2.1⟩
    have FR := hk6.fars
    -- there
    try dsimp only
    refine ⟨_, rfl, _, rfl, _, rfl, b, g, mt, na, bl, ns2, rfl, B6, hm6, PA6, asc_nodup R.asc, hbn, by omega, hns, fun th l H7 B7 sb7 et asc hin cl => ?_⟩
    have k7 : Kp b g H6 H7 := Kp.sameB sb7
    have hth7 : SqT K H7 th (l.map nV) := .inl (.inl et)
    have lel : l.length ≤ bl.length := nodup_below (asc.imp fun h => by omega) hin
    dsimp only [gName]
    refine st_eq (σ' := [some (.ref a), some (.ref b), some (.int (0 + (i : Int))), some (.ref mt), some (.ref na), some (.ref p), some (nV bl.length), some (.ref th), z8, z9, z10, z11, z12, z13, z14, z15, z16]) rfl ?_
    -- more
    refine set_join (fun v H' => ∃ (mo : Addr) (ks : List Nat), v = .ref mo ∧ BagAt H' b g ∧ Kp b g H7 H' ∧ SqT K H' mo (ks.map nV) ∧ ks.Pairwise (· < ·) ∧ (∀ c ∈ ks, c < bl.length) ∧ ClosedL ns2 ks ∧ ∀ c ∈ l, c ∈ ks) (fun Q1 kq => ?_) ?_
    · refine ⟨_, rfl, _, rfl, _, rfl, _, rfl, b, g, mt, na, bl, ns2, rfl, B7, seqT_kp B6 k7 hm6, PA6.kp B6 k7, asc_nodup R.asc, hbn, by omega, hns, fun t2 l2 H8 B8 sb8 et2 asc2 hin2 cl2 => ?_⟩
      have le2 : l2.length ≤ bl.length := nodup_below (asc2.imp fun h => by omega) hin2
      refine catA_of (seqT_kp B7 (Kp.sameB sb8) hth7) (.inl (.inl et2)) (by rw [List.length_map, List.length_map, sizeLine_eq]; omega) fun p3 H9 s9 g9 => ?_
      rw [← List.map_append] at g9
      refine ⟨p3, (l ++ l2).map fun x : Nat => (x : Int), rfl, .inr (by rw [← map_nV]; exact g9), by rw [List.length_map, List.length_append]; omega, fun S ms nd mem nS => ?_⟩
      have few := ms_few (n := 60) nd mem fun x hx => by
        rcases List.mem_append.mp hx with h | h
        · have := hin x h; omega
        · have := hin2 x h; omega
      refine ⟨S, _, ms.length, rfl, upd_same, by omega, fun ls L ascL memL lenL nL => ?_⟩
      obtain ⟨ks, rfl, ascK, memK⟩ := ls_nats ascL memL
      rw [← map_nV]
      refine .inl ⟨L, _, rfl, .inl (.inl upd_same), fun q2 nq2 => ?_⟩
      have v4 := ((same_upd nS).trans (same_upd (o := .lst (ks.map nV)) nL)).trans (same_upd (o := .tup (ks.map nV)) nq2)
      refine kq _ _ ⟨q2, ks, rfl, B8.same (s9.trans v4), (Kp.sameB sb8).trans (Kp.same (s9.trans v4)), .inl (.inl upd_same), ascK, fun c hc => ?_, fun c hc o fo => ?_, fun c hc => (memK c).mpr (List.mem_append.mpr (.inl hc))⟩
      · rcases List.mem_append.mp ((memK c).mp hc) with h | h
        · exact hin c h
        · exact hin2 c h
      · rw [memK] at hc ⊢
        rcases List.mem_append.mp hc with h | h
        · exact List.mem_append.mpr (.inl (cl c h o fo))
        · exact List.mem_append.mpr (.inr (cl2 c h o fo))
    rintro v H8 ⟨mo, ks, rfl, B8, k8, hmo, ascM, hinM, clM, sub⟩
    have k68 := k7.trans k8
    have hk8 := hk6.kp B6 k68
    have hm8 := seqT_kp B6 k68 hm6
    have PA8 := PA6.kp B6 k68
    have hth8 := seqT_kp B7 k8 hth7
    refine st_eq (σ' := [some (.ref a), some (.ref b), some (.int (0 + (i : Int))), some (.ref mt), some (.ref na), some (.ref p), some (nV bl.length), some (.ref th), some (.ref mo), z9, z10, z11, z12, z13, z14, z15, z16]) rfl ?_
    -- told
    try dsimp only
    refine ⟨_, rfl, _, rfl, p, .ref th, bl, ns2, fs, rfl, hk8, by omega, h60, stand_ok FR hth8 asc hin cl fun H9 s9 kk asck memk t9 H10 s10 n10 e10 => ?_⟩
    have s810 := s9.trans s10
    have B10 := B8.same s810
    have hk10 := hk8.same s810
    have hm10 := same_seqT s810 hm8
    have PA10 := PA8.same s810
    have hth10 := same_seqT s810 hth8
    have hmo10 := same_seqT s810 hmo
    have g10 : SqT K H10 t9 ((ripeKs fs bl kk (maskOf l)).map nV) := .inl (.inl e10)
    dsimp only [gName]
    refine st_eq (σ' := [some (.ref a), some (.ref b), some (.int (0 + (i : Int))), some (.ref mt), some (.ref na), some (.ref p), some (nV bl.length), some (.ref th), some (.ref mo), some (.ref t9), z10, z11, z12, z13, z14, z15, z16]) rfl ?_
    -- the ripe ones
    refine if_join (fun H' => Same H10 H') (fun Qb kq => ?_) ?_
    · refine ⟨_, rfl, _, rfl, _, rfl, _, rfl, mt, na, th, bl, ns2, l, rfl, hm10, PA10, hth10, by omega, h60, hns, cl, fun Rs t11 H11 s11 n11 e11 ri => ?_⟩
      have eR := ripe_eq FR ri asck memk
      rw [eR] at g10
      have lRs : Rs.length ≤ 60 := nodup_below (ri.1.imp fun h => by omega) fun x hx => h60 x ((ri.2 x).mp hx).1
      refine .inr ⟨t9, t11, Rs.map nV, rfl, same_seqT s11 g10, .inl (.inl e11), fun x hx => ?_, by rw [List.length_map]; omega, fun H12 s12 => ⟨_, rfl, ?_⟩⟩
      · obtain ⟨c, _, rfl⟩ := List.mem_map.mp hx
        rfl
      have s1012 := s11.trans s12
      refine iteF ⟨_, rfl, Nat.zero_le _, fun t13 n13 => ?_⟩
      have s13 : Same H12 (upd H12 t13 (.tup [])) := same_upd n13
      have g13 : SqT K (upd H12 t13 (.tup [])) t13 (([] : List Nat).map nV) := .inl (.inl upd_same)
      generalize upd H12 t13 (.tup []) = H13 at s13 g13 ⊢
      refine ⟨.tuple (Rs.map fun x : Nat => PyData.int (x : Int)), .tuple (([] : List Nat).map fun x : Nat => PyData.int (x : Int)), .tup (same_seqT (s1012.trans s13) g10) (dpAll_nats _), .tup g13 (dpAll_nats _), ints_shapedT _, ints_shapedT _, ?_⟩
      rw [eqv_natsT, ripe_empty FR hbn asc hin ri]
      refine ⟨_, rfl, th, _, rfl, .inr (same_seqT (s1012.trans s13) hth10), _, rfl, rfl, rfl, _, rfl, ?_⟩
      have e1 : decide (V.int ((l.map nV).length : Int) = nV bl.length) = decide (l.length = bl.length) := by
        rw [List.length_map]
        exact decide_eq_decide.mpr ⟨fun z => by injection z with z; omega, fun z => by rw [z]⟩
      rw [e1, decide_eq_true rfl]
      exact kq _ (s1012.trans s13)
    intro H14 s14
    have k814 := Kp.same (b := b) (g := g) (s810.trans s14)
    have B14 := B10.same s14
    have hk14 := hk10.same s14
    have hm14 := same_seqT s14 hm10
    have PA14 := PA10.same s14
    have hth14 := same_seqT s14 hth10
    have hmo14 := same_seqT s14 hmo10
    clear k814 hk10 hm10 PA10 hth10 hmo10 g10 B10
    refine ss_of rfl hm14 (by omega) h60 fun kb L H15 sL nL eL ascB memB => ?_
    refine ⟨L, rfl, ⟨_, .inl (.inl eL)⟩, for_list (K := K) (a := L) (xs := kb.map nV) (fun j σ H2 => Same H15 H2 ∧ ∃ v10 v11 v12 v13 v14 v15 v16 : Option V, σ = [some (.ref a), some (.ref b), some (.int (0 + (i : Int))), some (.ref mt), some (.ref na), some (.ref p), some (nV bl.length), some (.ref th), some (.ref mo), some (.ref t9), v10, v11, v12, v13, v14, v15, v16])
      ⟨Same.refl _, _, _, _, _, _, _, _, rfl⟩ (fun j σ H2 _ z => .inl (.inl (z.1 _ _ eL))) ?_ ?_⟩
    · rintro j x σ H16 hj ⟨s16, v10, v11, v12, v13, v14, v15, v16, rfl⟩
      rw [List.getElem?_map] at hj
      cases ec : kb[j]? with
      | none => rw [ec] at hj; cases hj
      | some c =>
      rw [ec] at hj
      cases hj
      have hc : c ∈ bl := (memB c).mp (List.mem_of_getElem? ec)
      have s1416 := sL.trans s16
      have hk16 := hk14.same s1416
      have hm16 := same_seqT s1416 hm14
      have PA16 := PA14.same s1416
      have hth16 := same_seqT s1416 hth14
      have hmo16 := same_seqT s1416 hmo14
      dsimp only [gName]
      refine st_eq (σ' := [some (.ref a), some (.ref b), some (.int (0 + (i : Int))), some (.ref mt), some (.ref na), some (.ref p), some (nV bl.length), some (.ref th), some (.ref mo), some (.ref t9), some (nV c), v11, v12, v13, v14, v15, v16]) rfl ?_
      -- due
      refine ⟨_, rfl, _, rfl, _, rfl, _, rfl, mt, na, th, bl, ns2, l, c, rfl, hm16, PA16, hth16, by omega, hns, cl, fun r t17 H17 s17 n17 e17 br => ?_⟩
      dsimp only [gName]
      refine st_eq (σ' := [some (.ref a), some (.ref b), some (.int (0 + (i : Int))), some (.ref mt), some (.ref na), some (.ref p), some (nV bl.length), some (.ref th), some (.ref mo), some (.ref t9), some (nV c), some (.ref t17), v12, v13, v14, v15, v16]) rfl ?_
      have g17 : SqT K H17 t17 (r.map nV) := .inl (.inl e17)
      have inr : ∀ c' ∈ r, c' < bl.length := fun c' hc' => (List.getElem?_eq_some_iff.mp ((br.2 c').mp hc').1).1
      have ler : r.length ≤ bl.length := nodup_below (br.1.imp fun h => by omega) inr
      have hk17 := hk16.same s17
      have hm17 := same_seqT s17 hm16
      have PA17 := PA16.same s17
      have hth17 := same_seqT s17 hth16
      have hmo17 := same_seqT s17 hmo16
      refine if_join (fun H' => Same H17 H') (fun Qb kq => ?_) ?_
      · refine ⟨_, rfl, _, rfl, _, rfl, p, .ref th, nV c, bl, ns2, fs, rfl, hk17, by omega, h60, fun _ _ => ob_int _, stand_ok FR hth17 asc hin cl fun H18 s18 => ⟨fun e => ?_, fun x ex hx t19 H19 s19 n19 e19 => ?_⟩⟩
        · rw [isblk_nat rfl hc] at e
          cases e
        have ex : c = x := by injection ex with ex; omega
        subst ex
        have lr := (LBr.lots (l := l) (b := c) FR).uniq br
        rw [lr] at e19
        refine ⟨_, rfl, .inr ⟨t19, t17, r.map nV, rfl, .inl (.inl e19), same_seqT (s18.trans s19) g17, fun x hx => ?_, by rw [List.length_map]; omega, fun H20 s20 => ⟨_, rfl, kq _ ((s18.trans s19).trans s20)⟩⟩⟩
        obtain ⟨y, _, rfl⟩ := List.mem_map.mp hx
        rfl
      intro H18 s18
      have hk18 := hk17.same s18
      have hm18 := same_seqT s18 hm17
      have PA18 := PA17.same s18
      have hth18 := same_seqT s18 hth17
      have hmo18 := same_seqT s18 hmo17
      have g18 := same_seqT s18 g17
      refine ⟨_, rfl, _, _, rfl, rfl, _, rfl, ite_join (fun σ H' => Same H18 H' ∧ ∃ v12 v14 : Option V, σ = [some (.ref a), some (.ref b), some (.int (0 + (i : Int))), some (.ref mt), some (.ref na), some (.ref p), some (nV bl.length), some (.ref th), some (.ref mo), some (.ref t9), some (nV c), some (.ref t17), v12, v13, v14, v15, v16]) (fun kk _ => ?_) (fun _ => ⟨Same.refl _, _, _, rfl⟩) ?_⟩
      · refine ⟨_, rfl, _, rfl, _, rfl, _, rfl, mt, na, th, bl, ns2, l, c, rfl, hm18, PA18, hth18, by omega, hns, cl, fun M L19 H19 s19 n19 tu ml mr mx => ?_⟩
        dsimp only [gName]
        refine st_eq (σ' := [some (.ref a), some (.ref b), some (.int (0 + (i : Int))), some (.ref mt), some (.ref na), some (.ref p), some (nV bl.length), some (.ref th), some (.ref mo), some (.ref t9), some (nV c), some (.ref t17), some (.ref L19), v13, v14, v15, v16]) rfl ?_
        obtain ⟨rM, rG⟩ := mr r br
        have g19 := same_seqT s19 g18
        refine if_last (fun H' => Same H19 H') (fun Qb kq => ?_) (fun H' s' => kk _ _ ⟨s19.trans s', _, _, rfl⟩)
        obtain ⟨rs, eLs, lrs, hrs⟩ := id tu
        refine ⟨_, rfl, _, rfl, tupD r, M.map tupD, .tup g19 (dpAll_nats _), tu.dp, ints_shapedT _, tups_shaped _, ?_⟩
        rw [tups_in rM]
        refine ⟨_, rfl, ?_⟩
        refine iteF ?_
        refine ⟨_, rfl, L19, rfl, ⟨_, .inl (.inl eLs)⟩, fun D nD => ?_⟩
        refine lc_list (K := K) (a := L19) (xs := rs.map V.ref) (fun q H20 => Same H19 H20 ∧ H20 D = some (.lst ((List.replicate q false).map V.bl))) ⟨same_upd nD, upd_same⟩ (fun q H20 _ z => .inl (.inl (z.1 _ _ eLs))) ?_ ?_
        · rintro q x H20 ex ⟨s20, eD⟩
          have hq := at_lt ex
          rw [List.length_map] at hq
          rw [List.getElem?_map] at ex
          cases er : rs[q]? with
          | none => rw [er] at ex; cases ex
          | some rr =>
          rw [er] at ex
          cases ex
          have em : M[q]? = some M[q] := List.getElem?_eq_getElem (by omega)
          generalize M[q] = m0 at em
          have hr20 := same_seqT s20 (hrs q rr m0 er em)
          have g20 := same_seqT s20 g19
          have sm := mx m0 (List.mem_of_getElem? em)
          refine ⟨rfl, _, rfl, rr, rfl, ⟨_, hr20⟩, fun D2 nD2 => ?_⟩
          have nDD : D ≠ D2 := ne_of_none eD nD2
          refine lc_tup (K := K) (a := rr) (xs := m0.map nV) (fun u H21 => Same H20 H21 ∧ H21 D2 = some (.lst ((List.replicate u true).map V.bl))) ⟨same_upd nD2, upd_same⟩ (fun u H21 _ z => same_seqT z.1 hr20) ?_ ?_
          · rintro u y H21 ey ⟨s21, eD2⟩
            have hu := at_lt ey
            rw [List.length_map] at hu
            rw [List.getElem?_map] at ey
            cases ed : m0[u]? with
            | none => rw [ed] at ey; cases ey
            | some d =>
            rw [ed] at ey
            cases ey
            have dr : d ∈ r := rG m0 (List.mem_of_getElem? em) d (List.mem_of_getElem? ed)
            refine ⟨rfl, _, rfl, _, rfl, t17, _, rfl, .inr (same_seqT s21 g20), rfl, flatN r, _, eD2, by rw [List.length_map, List.length_replicate, sizeLine_eq]; omega, same_put s21 nD2, rep_snoc ?_⟩
            rw [if_neg (by simp), inV_nat, decide_eq_true dr]
          · rintro H21 ⟨s21, eD2⟩
            refine ⟨D2, _, rfl, .inl (.inl eD2), _, rfl, _, s21 _ _ eD, by rw [List.length_map, List.length_replicate, sizeLine_eq]; omega, same_put (s20.trans s21) nD, rep_snoc ?_⟩
            rw [rep_true]
            rfl
        · rintro H20 ⟨s20, eD⟩
          refine ⟨D, _, rfl, .inl (.inl eD), ?_⟩
          rw [rep_false]
          exact ⟨_, rfl, kq _ s20⟩
      · rintro σ H19 ⟨s19, v12, v14, rfl⟩
        have hk19 := hk18.same s19
        have hmo19 := same_seqT s19 hmo18
        have g19 := same_seqT s19 g18
        refine next_go ?_
        refine if_last (tt := tB (tCB (rAny K) (tCons (tLc (iTup K (tVar 11)) (gName 13) tYes (tAndV (tOp (rIn K true) (tVar 13) (tVar 8)) (tOp (rIn K true) (tVar 13) (tCall (spComes K C CS CB) [] E0 (tCons (tVar 5) (tCons (tVar 8) (tCons (tVar 10) tNil)))))) (List.map (fun x => x.snd) [(("_law_change" : Str), 13)])) tNil))) (r := tRet (tC (V.bl false))) (fun H' => Same H19 H') (fun Qb kq => ?_) ?_
        rotate_left
        · exact fun H' s' => ⟨(((s16.trans s17).trans s18).trans s19).trans s', _, _, _, _, _, _, _, rfl⟩
        refine ⟨_, rfl, t17, rfl, ⟨_, g19⟩, fun D nD => ?_⟩
        refine lc_tup (K := K) (a := t17) (xs := r.map nV) (fun u H21 => Same H19 H21 ∧ H21 D = some (.lst ((List.replicate u false).map V.bl))) ⟨same_upd nD, upd_same⟩ (fun u H21 _ z => same_seqT z.1 g19) ?_ ?_
        · rintro u y H21 ey ⟨s21, eD⟩
          have hu := at_lt ey
          rw [List.length_map] at hu
          rw [List.getElem?_map] at ey
          cases ed : r[u]? with
          | none => rw [ed] at ey; cases ey
          | some d =>
          rw [ed] at ey
          cases ey
          have dr : d ∈ r := List.mem_of_getElem? ed
          refine ⟨rfl, _, rfl, _, rfl, mo, _, rfl, .inr (same_seqT s21 hmo19), rfl, flatN ks, _, rfl, ?_⟩
          rw [if_pos rfl, not_in]
          by_cases inm : d ∈ ks
          · rw [decide_eq_false (fun z => z inm)]
            refine iteF ⟨_, eD, by rw [List.length_map, List.length_replicate, sizeLine_eq]; omega, same_put s21 nD, rep_snoc rfl⟩
          · rw [decide_eq_true inm]
            refine iteT ⟨_, rfl, _, rfl, _, rfl, _, rfl, p, .ref mo, nV c, bl, ns2, fs, rfl, hk19.same s21, by omega, h60, fun _ _ => ob_int _, stand_ok FR (same_seqT s21 hmo19) ascM hinM clM fun H22 s22 => ⟨fun e => ?_, fun x ex hx t23 H23 s23 n23 e23 => ?_⟩⟩
            · rw [isblk_nat rfl hc] at e
              cases e
            have ex : c = x := by injection ex with ex; omega
            subst ex
            have br2 := LBr.lots (l := ks) (b := c) FR
            generalize lotOf (brOf fs (blkM bl c bl.length) (maskOf ks)) = r2 at br2 e23
            have in2 : d ∈ r2 := (comes_more sub br br2 dr).resolve_left inm
            have s2123 := s22.trans s23
            refine ⟨t23, _, rfl, .inr (.inl (.inl e23)), rfl, flatN r2, _, s2123 _ _ eD, by rw [List.length_map, List.length_replicate, sizeLine_eq]; omega, same_put (s21.trans s2123) nD, rep_snoc ?_⟩
            rw [if_pos rfl, not_in, decide_eq_false (fun z => z in2)]
        · rintro H21 ⟨s21, eD⟩
          refine ⟨D, _, rfl, .inl (.inl eD), ?_⟩
          rw [rep_false]
          exact ⟨_, rfl, kq _ s21⟩
    · rintro σ H16 ⟨s16, v10, v11, v12, v13, v14, v15, v16, rfl⟩
      have s1416 := sL.trans s16
      have k1416 : Kp b g H14 H16 := Kp.same s1416
      refine ⟨4, rfl, by decide, by decide, for_range (n := 4) (fun j σ H2 => ∃ y10 y11 y12 y13 y14 y15 y16 : Option V, σ = [some (.ref a), some (.ref b), some (.int (0 + (i : Int))), some (.ref mt), some (.ref na), some (.ref p), some (nV bl.length), some (.ref th), some (.ref mo), some (.ref t9), y10, y11, y12, y13, y14, y15, y16] ∧ BagAt H2 b g ∧ Kp b g H14 H2)
        ⟨_, _, _, _, _, _, _, rfl, B14.same s1416, k1416⟩ ?_ ?_⟩
      · rintro j σ H17 hj ⟨y10, y11, y12, y13, y14, y15, y16, rfl, B17, k17⟩
        have hk17 := hk14.kp B14 k17
        have hm17 := seqT_kp B14 k17 hm14
        have PA17 := PA14.kp B14 k17
        have hth17 := seqT_kp B14 k17 hth14
        refine ⟨_, rfl, _, rfl, _, rfl, b, g, th, l, bl.length, rfl, B17, hth17, by omega, fun c hc => by have := hin c hc; omega, by omega, fun v H18 B18 sb18 rt => ?_⟩
        have k1718 : Kp b g H17 H18 := Kp.sameB sb18
        have hk18 := hk17.kp B17 k1718
        have hm18 := seqT_kp B17 k1718 hm17
        have PA18 := PA17.kp B17 k1718
        obtain ⟨ok, h1, h2⟩ := rt.stand I B18 FR
        have hst : ∀ (Q' : VK) (E' : XK), (∀ H2, Same H18 H2 → Q' (.bl ok) H2) → spIsSt K C [.ref p, v] H18 Q' E' := fun Q' E' hq => by
          obtain ⟨tp, a1, a2, a3⟩ := h2 H18 (Kp.refl b g H18) Q' hq
          exact ⟨p, v, bl, ns2, fs, tp, rfl, hk18, by omega, a1, a2, a3⟩
        have hls : ∀ H19, Same H18 H19 → ∀ (Q' : VK) (E' : XK), (∀ H2, Same H19 H2 → Q' (.bl ok) H2) → spLawSt K [.ref mt, .ref na, v] H19 Q' E' := fun H19 s19 Q' E' hq => by
          obtain ⟨tp, a1, a2, a3⟩ := h1 H19 (Kp.same s19) Q' hq
          exact ⟨mt, na, v, bl, ns2, tp, rfl, same_seqT s19 hm18, PA18.same s19, hns, a1, a2, a3⟩
        dsimp only [gName]
        refine st_eq (σ' := [some (.ref a), some (.ref b), some (.int (0 + (i : Int))), some (.ref mt), some (.ref na), some (.ref p), some (nV bl.length), some (.ref th), some (.ref mo), some (.ref t9), y10, y11, y12, y13, y14, some (.int (0 + (j : Int))), some v]) rfl ?_
        refine if_last (fun H' => Same H18 H') (fun Qb kq => ?_) (fun H' s' => ⟨_, _, _, _, _, _, _, rfl, B18.same s', (k17.trans k1718).trans (Kp.same s')⟩)
        refine ⟨_, rfl, _, rfl, hst (fun x H1 => tCons (tCall (spLawSt K) [] E0 (tCons (tVar 3) (tCons (tVar 4) (tCons (tVar 16) tNil)))) tNil [some (.ref a), some (.ref b), some (.int (0 + (i : Int))), some (.ref mt), some (.ref na), some (.ref p), some (nV bl.length), some (.ref th), some (.ref mo), some (.ref t9), y10, y11, y12, y13, y14, some (.int (0 + (j : Int))), some v] H1 fun xs H2 => spIsQ K ((x :: xs) ++ []) H2 (fun x H1 => ∃ c, x = V.bl c ∧ Qb (!c) H1) E0) E0 fun H19 s19 => ?_⟩
        refine ⟨_, rfl, _, rfl, _, rfl, hls H19 s19 (fun y H2 => spIsQ K (.bl ok :: y :: [] ++ []) H2 (fun x H1 => ∃ c, x = V.bl c ∧ Qb (!c) H1) E0) E0 fun H20 s20 => ?_⟩
        exact .inl ⟨ok, rfl, fun H21 s21 => ⟨_, rfl, kq _ ((s19.trans s20).trans s21)⟩⟩
      · rintro σ H17 ⟨y10, y11, y12, y13, y14, y15, y16, rfl, B17, k17⟩
        exact ⟨_, _, _, _, _, _, _, _, _, _, _, _, _, _, _, rfl, B17⟩
end
end Rip

/-! The head: what is read off the run of the top. -/
namespace Rip
open PySem PySem.Spec PyProof.Rows L2
def dNt : He.DefD := ⟨("is_integer", none), "is_integer", "is_integer", defArgs s_isinteger, defBody s_isinteger, defScope s_isinteger, [], []⟩
def dN : He.DefD := ⟨("is_number", none), "is_number", "is_number", defArgs s_isnum, defBody s_isnum, defScope s_isnum, [], []⟩
def dB : He.DefD := ⟨("is_number_below", none), "is_number_below", "is_number_below", defArgs s_isbelow, defBody s_isbelow, defScope s_isbelow, [], []⟩
def dO : He.DefD := ⟨("is_lot_below", none), "is_lot_below", "is_lot_below", defArgs s_islot, defBody s_islot, defScope s_islot, [], []⟩
def dM : He.DefD := ⟨("mask_of", none), "mask_of", "mask_of", defArgs s_maskof, defBody s_maskof, defScope s_maskof, [], []⟩
def dL : He.DefD := ⟨("lot_of", none), "lot_of", "lot_of", defArgs s_lotof, defBody s_lotof, defScope s_lotof, [], []⟩
def dF : He.DefD := ⟨("far_masks", none), "far_masks", "far_masks", defArgs s_far, defBody s_far, defScope s_far, [], []⟩
def dI : He.DefD := ⟨("Book", some "__init__"), "__init__", "Book.__init__", defArgs s_init, defBody s_init, defScope s_init, [], []⟩
def dAre : He.DefD := ⟨("are_blocks", none), "are_blocks", "are_blocks", defArgs s_areb, defBody s_areb, defScope s_areb, [], []⟩
def dC : He.DefD := ⟨("check_parts", none), "check_parts", "check_parts", defArgs s_check, defBody s_check, defScope s_check, [], []⟩
def dD : He.DefD := ⟨("is_need", none), "is_need", "is_need", defArgs s_isneed, defBody s_isneed, defScope s_isneed, [], []⟩
def dIb : He.DefD := ⟨("is_block", none), "is_block", "is_block", defArgs s_isblock, defBody s_isblock, defScope s_isblock, [], []⟩
def dSt : He.DefD := ⟨("is_standing", none), "is_standing", "is_standing", defArgs s_isst, defBody s_isst, defScope s_isst, [], []⟩
def dSm : He.DefD := ⟨("standing_mask", none), "standing_mask", "standing_mask", defArgs s_stm, defBody s_stm, defScope s_stm, [], []⟩
def dBm : He.DefD := ⟨("block_masks", none), "block_masks", "block_masks", defArgs s_bm, defBody s_bm, defScope s_bm, [], []⟩
def dBr : He.DefD := ⟨("brought", none), "brought", "brought", defArgs s_br, defBody s_br, defScope s_br, [], []⟩
def dSa : He.DefD := ⟨("steps_at", none), "steps_at", "steps_at", defArgs s_sa, defBody s_sa, defScope s_sa, [], []⟩
def dCo : He.DefD := ⟨("comes", none), "comes", "comes", defArgs s_comes, defBody s_comes, defScope s_comes, [], []⟩
def dRi : He.DefD := ⟨("ripe", none), "ripe", "ripe", defArgs s_ripe, defBody s_ripe, defScope s_ripe, [], []⟩
def dlB : He.DefD := ⟨("_law_bag", none), "_law_bag", "_law_bag", defArgs sBag, defBody sBag, defScope sBag, [], []⟩
def dlP : He.DefD := ⟨("_law_pick", none), "_law_pick", "_law_pick", defArgs sPick, defBody sPick, defScope sPick, [], []⟩
def dlO : He.DefD := ⟨("_law_some", none), "_law_some", "_law_some", defArgs sSome, defBody sSome, defScope sSome, [], []⟩
def dlIs : He.DefD := ⟨("_law_is", none), "_law_is", "_law_is", defArgs s_is, defBody s_is, defScope s_is, [], []⟩
def dlI : He.DefD := ⟨("_law_is_int", none), "_law_is_int", "_law_is_int", defArgs s_isint, defBody s_isint, defScope s_isint, [], []⟩
def dlD : He.DefD := ⟨("_law_deep", none), "_law_deep", "_law_deep", defArgs s_deep, defBody s_deep, defScope s_deep, [], []⟩
def dlBe : He.DefD := ⟨("_law_below", none), "_law_below", "_law_below", defArgs s_below, defBody s_below, defScope s_below, [], []⟩
def dlN : He.DefD := ⟨("_law_needs", none), "_law_needs", "_law_needs", defArgs s_needs, defBody s_needs, defScope s_needs, [], []⟩
def dlR : He.DefD := ⟨("_law_parts", none), "_law_parts", "_law_parts", defArgs s_parts, defBody s_parts, defScope s_parts, [], []⟩
def dlBr : He.DefD := ⟨("_law_brought", none), "_law_brought", "_law_brought", defArgs s_lbr, defBody s_lbr, defScope s_lbr, [], []⟩
def dlRi : He.DefD := ⟨("_law_ripe", none), "_law_ripe", "_law_ripe", defArgs s_lri, defBody s_lri, defScope s_lri, [], []⟩
def dlCl : He.DefD := ⟨("_law_closed", none), "_law_closed", "_law_closed", defArgs s_closed, defBody s_closed, defScope s_closed, [], []⟩
def dlL : He.DefD := ⟨("_law_is_lot", none), "_law_is_lot", "_law_is_lot", defArgs s_lawlot, defBody s_lawlot, defScope s_lawlot, [], []⟩
def dlSt : He.DefD := ⟨("_law_is_standing", none), "_law_is_standing", "_law_is_standing", defArgs s_lawst, defBody s_lawst, defScope s_lawst, [], []⟩
def dlAl : He.DefD := ⟨("_law_all_lots", none), "_law_all_lots", "_law_all_lots", defArgs s_lal, defBody s_lal, defScope s_lal, [], []⟩
def dlBs : He.DefD := ⟨("_law_bent", none), "_law_bent", "_law_bent", defArgs s_lbs, defBody s_lbs, defScope s_lbs, [], []⟩
def dlGr : He.DefD := ⟨("_law_great_right", none), "_law_great_right", "_law_great_right", defArgs s_lgr, defBody s_lgr, defScope s_lgr, [], []⟩
def dlL0 : He.DefD := ⟨("law", none), "law", "law", defArgs s_law, defBody s_law, defScope s_law, [], []⟩
def fnL : List He.DefD := [dNt, dN, dB, dO, dM, dL, dF, dI, dAre, dC, dD, dIb, dSt, dSm, dBm, dBr, dSa, dCo, dRi, dlB, dlP, dlO, dlIs, dlI, dlD, dlBe, dlN, dlR, dlBr, dlRi, dlCl, dlL, dlSt, dlAl, dlBs, dlGr, dlL0]
def e1 (K : PySem.W.Frag) : Bool := (["is_integer", "is_number", "is_number_below", "is_lot_below", "mask_of", "lot_of", "far_masks", "are_blocks", "check_parts", "is_need", "is_block", "is_standing", "standing_mask", "block_masks", "brought", "steps_at", "comes", "ripe", "_law_bag", "_law_pick", "_law_some", "_law_is", "_law_is_int", "_law_deep", "_law_below", "_law_needs", "_law_parts", "_law_brought", "_law_ripe", "_law_closed", "_law_is_lot", "_law_is_standing", "_law_all_lots", "_law_bent", "_law_great_right", "law", "Book", "NoStanding", "NoBlock"] : List String).all fun x => He.Fa.ok K (.glo (PySem.Str.ofString x))
def e2 (K : PySem.W.Frag) : Bool := (["len", "int", "abs", "sum", "all", "zip", "range", "enumerate", "isinstance", "tuple", "list", "bool", "ValueError", "sorted", "set", "any"] : List String).all fun x => He.Fa.ok K (.free (PySem.Str.ofString x))
def e3 (K : PySem.W.Frag) : Bool := He.Fa.ok K (.int "MOST_CHANGES" 200) && (He.Fa.ok K (.int "MOST_BLOCKS" 50) && He.Fa.ok K (.int "MOST_NEEDS" 4000))
def bkA (K : PySem.W.Frag) : Addr := He.ga K "Book"
def e4 (K : PySem.W.Frag) : Bool := He.Fa.ok K (.cls "Book") && (He.Fa.ok K (.noat "Book" "blocks") && (He.Fa.ok K (.noat "Book" "needs") && (He.Fa.ok K (.noat "Book" "far") && (He.Fa.ok K (.mkr "Book") &&
  (decide (PySem.W.findIn K (.ref (bkA K)) "__class__" = some (some (.builtin "object.__class__"))) && (decide (PySem.W.mroIn K (bkA K) (.type "object") = some true) && (decide (PySem.W.kitOne K (.ref (bkA K)) (.type "int") = some false) &&
  (decide (PySem.W.kitOne K (.ref (bkA K)) (.type "bool") = some false) && decide (PySem.W.kitOne K (.ref (bkA K)) (.type "tuple") = some false)))))))))
def nm3 (i : Nat) : Str := if i = 0 then "NoStanding" else "NoBlock"
def c3 (K : PySem.W.Frag) (i : Nat) : Addr := He.ga K (nm3 i)
def e5 (K : PySem.W.Frag) : Bool := (List.range 2).all fun i => He.Fa.ok K (.exc (nm3 i))
def e7 (K : PySem.W.Frag) : Bool := decide (PySem.W.specialIn K (.builtin "object.__class__") "__get__" = some (some (.builtin "getset_descriptor.__get__"))) && decide (PySem.W.takesIn K (.builtin "object.__class__") = some true)
def exB (K : PySem.W.Frag) : Bool := e1 K && (e2 K && (e3 K && (e4 K && (e5 K && e7 K))))
theorem all_range {n : Nat} {f : Nat → Bool} (h : (List.range n).all f = true) {i : Nat} (hi : i < n) : f i = true :=
  List.all_eq_true.mp h i (List.mem_range.mpr hi)
theorem fun_of {K : PySem.W.Frag} {x qual : Str} {st : Stmt} {f : Addr} {fd : FuncData} (F : FunD K x qual (defArgs st) (defBody st) (defScope st) [] [] f fd) : Fun K x qual st f fd := by
  obtain ⟨oc, od, dV, kV, doc, pm, an, cdv, ct, osl, rfl, lk, hcd, hD, hK⟩ := F.ex
  rcases hD with ⟨_, rfl⟩ | ⟨e, _⟩
  · exact ⟨⟨oc, od, kV, doc, pm, an, cdv, ct, osl, rfl, lk, hcd⟩, F.kp⟩
  · exact absurd rfl e
theorem all_mk {l : PySem.W.OpenLaw} {w : World} {K : PySem.W.Frag} {h : Heap} {mg : Str → Option Value} {fa : Addr} (X : K.In h) (G : h.Ns mainGlobals mg) (hfa : mg "law" = some (.ref fa)) (c : He.SaysX [] fnL [] [] exB w h K) :
    ∃ fd : FuncData, (∀ (s : Shared) (v : Value), BindsTo s fd ⟨[v], []⟩ [("_law_script", v)]) ∧ ∀ base : Heap, K.In base → base.Ns mainGlobals mg → FnOk l.prog w K mg base CX0 9 fa fd ["_law_script"] (spLaw K) := by
  have ex := c.more
  unfold exB at ex
  simp only [Bool.and_eq_true] at ex
  obtain ⟨h1, h2, h3, h4, h5, h7⟩ := ex
  have gm := fun (x : String) hx => He.glo_ok X G (List.all_eq_true.mp h1 x hx)
  have fr := fun (x : String) hx => He.free_ok X G (List.all_eq_true.mp h2 x hx)
  have e := hfa.symm.trans (gm "law" (by decide))
  cases e
  have B : Blt mg := ⟨fr "len" (by decide), fr "int" (by decide), fr "abs" (by decide), fr "sum" (by decide), fr "all" (by decide), fr "zip" (by decide), fr "range" (by decide), fr "enumerate" (by decide), fr "isinstance" (by decide), fr "tuple" (by decide), fr "list" (by decide), fr "bool" (by decide)⟩
  unfold e3 at h3
  unfold e4 at h4
  unfold e7 at h7
  simp only [Bool.and_eq_true, decide_eq_true_eq] at h3 h4 h7
  have Cn : Consts mg := ⟨He.int_ok X G h3.1, He.int_ok X G h3.2.1, He.int_ok X G h3.2.2⟩
  obtain ⟨b1, b2, b3, b4, b5, b6, b7, b8, b9, b10⟩ := h4
  have clB := He.cls_ok b1
  have T : BkT K mg (bkA K) := ⟨clB, He.noat_ok b2, He.noat_ok b3, He.noat_ok b4, gm "Book" (by decide)⟩
  have I : BkI K (bkA K) := ⟨fun H a dx fs e => .base (.ins e clB b6 h7.1 h7.2 b7), b8, b9, b10⟩
  have xe := fun i (hi : i < 2) => He.exc_ok (all_range h5 hi)
  have gNoStanding : mg "NoStanding" = some (.ref (c3 K 0)) := gm "NoStanding" (by decide)
  have E0 : ErT K mg "NoStanding" (c3 K 0) := ⟨(xe 0 (by decide)).1, gNoStanding, (xe 0 (by decide)).2.1, (xe 0 (by decide)).2.2.1, (xe 0 (by decide)).2.2.2⟩
  have gNoBlock : mg "NoBlock" = some (.ref (c3 K 1)) := gm "NoBlock" (by decide)
  have E1 : ErT K mg "NoBlock" (c3 K 1) := ⟨(xe 1 (by decide)).1, gNoBlock, (xe 1 (by decide)).2.1, (xe 1 (by decide)).2.2.1, (xe 1 (by decide)).2.2.2⟩
  have D := c.t.d
  obtain ⟨fdNt, ENt⟩ := D.def_ 0 (d := dNt) rfl
  have bNt := FunD.bindsN (ps := ["thing"]) ENt fun _ _ _ _ _ _ us hl => match us, hl with | [_], _ => rfl
  have FNt := fun_of (st := s_isinteger) ENt
  obtain ⟨fdN, EN⟩ := D.def_ 1 (d := dN) rfl
  have bN := FunD.bindsN (ps := ["thing"]) EN fun _ _ _ _ _ _ us hl => match us, hl with | [_], _ => rfl
  have FN := fun_of (st := s_isnum) EN
  obtain ⟨fdB, EB⟩ := D.def_ 2 (d := dB) rfl
  have bB := FunD.bindsN (ps := ["bound", "thing"]) EB fun _ _ _ _ _ _ us hl => match us, hl with | [_, _], _ => rfl
  have FB := fun_of (st := s_isbelow) EB
  obtain ⟨fdO, EO⟩ := D.def_ 3 (d := dO) rfl
  have bO := FunD.bindsN (ps := ["bound", "thing"]) EO fun _ _ _ _ _ _ us hl => match us, hl with | [_, _], _ => rfl
  have FO := fun_of (st := s_islot) EO
  obtain ⟨fdM, EM⟩ := D.def_ 4 (d := dM) rfl
  have bM := FunD.bindsN (ps := ["lot"]) EM fun _ _ _ _ _ _ us hl => match us, hl with | [_], _ => rfl
  have FM := fun_of (st := s_maskof) EM
  obtain ⟨fdL, EL⟩ := D.def_ 5 (d := dL) rfl
  have bL := FunD.bindsN (ps := ["mask"]) EL fun _ _ _ _ _ _ us hl => match us, hl with | [_], _ => rfl
  have FL := fun_of (st := s_lotof) EL
  obtain ⟨fdF, EF⟩ := D.def_ 6 (d := dF) rfl
  have bF := FunD.bindsN (ps := ["many", "needs"]) EF fun _ _ _ _ _ _ us hl => match us, hl with | [_, _], _ => rfl
  have FF := fun_of (st := s_far) EF
  obtain ⟨fdI, EI⟩ := D.def_ 7 (d := dI) rfl
  have bI := FunD.bindsN (ps := ["self", "blocks", "needs"]) EI fun _ _ _ _ _ _ us hl => match us, hl with | [_, _, _], _ => rfl
  have FI := fun_of (st := s_init) EI
  obtain ⟨fdAre, EAre⟩ := D.def_ 8 (d := dAre) rfl
  have bAre := FunD.bindsN (ps := ["thing"]) EAre fun _ _ _ _ _ _ us hl => match us, hl with | [_], _ => rfl
  have FAre := fun_of (st := s_areb) EAre
  obtain ⟨fdC, EC⟩ := D.def_ 9 (d := dC) rfl
  have bC := FunD.bindsN (ps := ["blocks", "needs"]) EC fun _ _ _ _ _ _ us hl => match us, hl with | [_, _], _ => rfl
  have FC := fun_of (st := s_check) EC
  obtain ⟨fdD, ED⟩ := D.def_ 10 (d := dD) rfl
  have bD := FunD.bindsN (ps := ["many", "thing"]) ED fun _ _ _ _ _ _ us hl => match us, hl with | [_, _], _ => rfl
  have FD := fun_of (st := s_isneed) ED
  obtain ⟨fdIb, EIb⟩ := D.def_ 11 (d := dIb) rfl
  have bIb := FunD.bindsN (ps := ["book", "thing"]) EIb fun _ _ _ _ _ _ us hl => match us, hl with | [_, _], _ => rfl
  have FIb := fun_of (st := s_isblock) EIb
  obtain ⟨fdSt, ESt⟩ := D.def_ 12 (d := dSt) rfl
  have bSt := FunD.bindsN (ps := ["book", "thing"]) ESt fun _ _ _ _ _ _ us hl => match us, hl with | [_, _], _ => rfl
  have FSt := fun_of (st := s_isst) ESt
  obtain ⟨fdSm, ESm⟩ := D.def_ 13 (d := dSm) rfl
  have bSm := FunD.bindsN (ps := ["book", "standing"]) ESm fun _ _ _ _ _ _ us hl => match us, hl with | [_, _], _ => rfl
  have FSm := fun_of (st := s_stm) ESm
  obtain ⟨fdBm, EBm⟩ := D.def_ 14 (d := dBm) rfl
  have bBm := FunD.bindsN (ps := ["book"]) EBm fun _ _ _ _ _ _ us hl => match us, hl with | [_], _ => rfl
  have FBm := fun_of (st := s_bm) EBm
  obtain ⟨fdBr, EBr⟩ := D.def_ 15 (d := dBr) rfl
  have bBr := FunD.bindsN (ps := ["book", "inside", "there"]) EBr fun _ _ _ _ _ _ us hl => match us, hl with | [_, _, _], _ => rfl
  have FBr := fun_of (st := s_br) EBr
  obtain ⟨fdSa, ESa⟩ := D.def_ 16 (d := dSa) rfl
  have bSa := FunD.bindsN (ps := ["book", "masks", "there"]) ESa fun _ _ _ _ _ _ us hl => match us, hl with | [_, _, _], _ => rfl
  have FSa := fun_of (st := s_sa) ESa
  obtain ⟨fdCo, ECo⟩ := D.def_ 17 (d := dCo) rfl
  have bCo := FunD.bindsN (ps := ["book", "standing", "block"]) ECo fun _ _ _ _ _ _ us hl => match us, hl with | [_, _, _], _ => rfl
  have FCo := fun_of (st := s_comes) ECo
  obtain ⟨fdRi, ERi⟩ := D.def_ 18 (d := dRi) rfl
  have bRi := FunD.bindsN (ps := ["book", "standing"]) ERi fun _ _ _ _ _ _ us hl => match us, hl with | [_, _], _ => rfl
  have FRi := fun_of (st := s_ripe) ERi
  obtain ⟨fdlB, ElB⟩ := D.def_ 19 (d := dlB) rfl
  have blB := FunD.bindsN (ps := ["_law_script"]) ElB fun _ _ _ _ _ _ us hl => match us, hl with | [_], _ => rfl
  have FlB := fun_of (st := sBag) ElB
  obtain ⟨fdlP, ElP⟩ := D.def_ 20 (d := dlP) rfl
  have blP := FunD.bindsN (ps := ["_law_bag_here", "_law_many"]) ElP fun _ _ _ _ _ _ us hl => match us, hl with | [_, _], _ => rfl
  have FlP := fun_of (st := sPick) ElP
  obtain ⟨fdlO, ElO⟩ := D.def_ 21 (d := dlO) rfl
  have blO := FunD.bindsN (ps := ["_law_bag_here", "_law_things"]) ElO fun _ _ _ _ _ _ us hl => match us, hl with | [_, _], _ => rfl
  have FlO := fun_of (st := sSome) ElO
  obtain ⟨fdlIs, ElIs⟩ := D.def_ 22 (d := dlIs) rfl
  have blIs := FunD.bindsN (ps := ["_law_thing", "_law_due"]) ElIs fun _ _ _ _ _ _ us hl => match us, hl with | [_, _], _ => rfl
  have FlIs := fun_of (st := s_is) ElIs
  obtain ⟨fdlI, ElI⟩ := D.def_ 23 (d := dlI) rfl
  have blI := FunD.bindsN (ps := ["_law_thing", "_law_least", "_law_most"]) ElI fun _ _ _ _ _ _ us hl => match us, hl with | [_, _, _], _ => rfl
  have FlI := fun_of (st := s_isint) ElI
  obtain ⟨fdlD, ElD⟩ := D.def_ 24 (d := dlD) rfl
  have blD := FunD.bindsN (ps := []) ElD fun _ _ _ _ _ _ us hl => match us, hl with | [], _ => rfl
  have FlD := fun_of (st := s_deep) ElD
  obtain ⟨fdlBe, ElBe⟩ := D.def_ 25 (d := dlBe) rfl
  have blBe := FunD.bindsN (ps := ["_law_many", "_law_needs_here"]) ElBe fun _ _ _ _ _ _ us hl => match us, hl with | [_, _], _ => rfl
  have FlBe := fun_of (st := s_below) ElBe
  obtain ⟨fdlN, ElN⟩ := D.def_ 26 (d := dlN) rfl
  have blN := FunD.bindsN (ps := ["_law_bag_here", "_law_many", "_law_rare"]) ElN fun _ _ _ _ _ _ us hl => match us, hl with | [_, _, _], _ => rfl
  have FlN := fun_of (st := s_needs) ElN
  obtain ⟨fdlR, ElR⟩ := D.def_ 27 (d := dlR) rfl
  have blR := FunD.bindsN (ps := ["_law_bag_here", "_law_most", "_law_blocks"]) ElR fun _ _ _ _ _ _ us hl => match us, hl with | [_, _, _], _ => rfl
  have FlR := fun_of (st := s_parts) ElR
  obtain ⟨fdlBr, ElBr⟩ := D.def_ 28 (d := dlBr) rfl
  have blBr := FunD.bindsN (ps := ["_law_blocks", "_law_needs_here", "_law_there", "_law_block"]) ElBr fun _ _ _ _ _ _ us hl => match us, hl with | [_, _, _, _], _ => rfl
  have FlBr := fun_of (st := s_lbr) ElBr
  obtain ⟨fdlRi, ElRi⟩ := D.def_ 29 (d := dlRi) rfl
  have blRi := FunD.bindsN (ps := ["_law_blocks", "_law_needs_here", "_law_there"]) ElRi fun _ _ _ _ _ _ us hl => match us, hl with | [_, _, _], _ => rfl
  have FlRi := fun_of (st := s_lri) ElRi
  obtain ⟨fdlCl, ElCl⟩ := D.def_ 30 (d := dlCl) rfl
  have blCl := FunD.bindsN (ps := ["_law_bag_here", "_law_blocks", "_law_needs_here"]) ElCl fun _ _ _ _ _ _ us hl => match us, hl with | [_, _, _], _ => rfl
  have FlCl := fun_of (st := s_closed) ElCl
  obtain ⟨fdlL, ElL⟩ := D.def_ 31 (d := dlL) rfl
  have blL := FunD.bindsN (ps := ["_law_thing", "_law_many"]) ElL fun _ _ _ _ _ _ us hl => match us, hl with | [_, _], _ => rfl
  have FlL := fun_of (st := s_lawlot) ElL
  obtain ⟨fdlSt, ElSt⟩ := D.def_ 32 (d := dlSt) rfl
  have blSt := FunD.bindsN (ps := ["_law_blocks", "_law_needs_here", "_law_thing"]) ElSt fun _ _ _ _ _ _ us hl => match us, hl with | [_, _, _], _ => rfl
  have FlSt := fun_of (st := s_lawst) ElSt
  obtain ⟨fdlAl, ElAl⟩ := D.def_ 33 (d := dlAl) rfl
  have blAl := FunD.bindsN (ps := ["_law_blocks", "_law_needs_here", "_law_there", "_law_block"]) ElAl fun _ _ _ _ _ _ us hl => match us, hl with | [_, _, _, _], _ => rfl
  have FlAl := fun_of (st := s_lal) ElAl
  obtain ⟨fdlBs, ElBs⟩ := D.def_ 34 (d := dlBs) rfl
  have blBs := FunD.bindsN (ps := ["_law_bag_here", "_law_there", "_law_many"]) ElBs fun _ _ _ _ _ _ us hl => match us, hl with | [_, _, _], _ => rfl
  have FlBs := fun_of (st := s_lbs) ElBs
  obtain ⟨fdlGr, ElGr⟩ := D.def_ 35 (d := dlGr) rfl
  have blGr := FunD.bindsN (ps := ["_law_bag_here"]) ElGr fun _ _ _ _ _ _ us hl => match us, hl with | [_], _ => rfl
  have FlGr := fun_of (st := s_lgr) ElGr
  obtain ⟨fdlL0, ElL0⟩ := D.def_ 36 (d := dlL0) rfl
  have blL0 := FunD.bindsN (ps := ["_law_script"]) ElL0 fun _ _ _ _ _ _ us hl => match us, hl with | [_], _ => rfl
  have FlL0 := fun_of (st := s_law) ElL0
  have NN : NumT K mg _ fdN := ⟨FN, _, _, FNt, bNt, (gm "is_integer" (by decide))⟩
  have bz := FunD.bindsA (ps := ["_law_script"]) ElL0 fun _ _ _ _ _ _ us hl => match us, hl with | [_], _ => rfl
  have m : MkB K mg (bkA K) _ _ _ _ _ _ fdI fdC fdF fdB fdN fdD := ⟨He.mkr_ok b5, FI, bI, B, Cn, T, FC, bC, (gm "check_parts" (by decide)), FF, bF, (gm "far_masks" (by decide)), FB, bB, (gm "is_number_below" (by decide)), NN, bN, (gm "is_number" (by decide)), FD, bD, (gm "is_need" (by decide)), ⟨_, _, FAre, bAre, (gm "are_blocks" (by decide))⟩⟩
  have nst : mg "set" = none := fr "set" (by decide)
  have nsr : mg "sorted" = none := fr "sorted" (by decide)
  have nany : mg "any" = none := fr "any" (by decide)
  refine ⟨fdlL0, fun s v => bz s [v] rfl, fun base _ _ => ?_⟩
  have hO : Has l.prog w K mg base CX0 4 "is_lot_below" ["bound", "thing"] (spIsLot K) := ⟨_, _, ok_islot FO B FB bB (gm "is_number_below" (by decide)) NN bN (gm "is_number" (by decide)), FO.kp, bO, (gm "is_lot_below" (by decide))⟩
  have hK : Has l.prog w K mg base CX0 1 "mask_of" ["lot"] (spMaskOf K) := ⟨_, _, ok_maskof FM, FM.kp, bM, (gm "mask_of" (by decide))⟩
  have hL : Has l.prog w K mg base CX0 1 "lot_of" ["mask"] spLotB := ⟨_, _, ok_lotof FL B, FL.kp, bL, (gm "lot_of" (by decide))⟩
  have hIb : Has l.prog w K mg base CX0 3 "is_block" ["book", "thing"] (spIsBlock K (bkA K)) := ⟨_, _, ok_isblock FIb B T NN bN (gm "is_number" (by decide)), FIb.kp, bIb, (gm "is_block" (by decide))⟩
  have hSt : Has l.prog w K mg base CX0 5 "is_standing" ["book", "thing"] (spIsSt K (bkA K)) := ⟨_, _, ok_isst FSt B T hO hK, FSt.kp, bSt, (gm "is_standing" (by decide))⟩
  have hSm : Has l.prog w K mg base (L2.CX l.prog w) 6 "standing_mask" ["book", "standing"] (spStm K (bkA K) (c3 K 0)) := ⟨_, _, ok_stm FSm E0 hSt hK, FSm.kp, bSm, (gm "standing_mask" (by decide))⟩
  have hBm : Has l.prog w K mg base CX0 1 "block_masks" ["book"] (spBm K (bkA K)) := ⟨_, _, ok_bm FBm B nst nsr T, FBm.kp, bBm, (gm "block_masks" (by decide))⟩
  have hBr : Has l.prog w K mg base CX0 2 "brought" ["book", "inside", "there"] (spBr K (bkA K)) := ⟨_, _, ok_br FBr T hL, FBr.kp, bBr, (gm "brought" (by decide))⟩
  have hSa : Has l.prog w K mg base CX0 3 "steps_at" ["book", "masks", "there"] (spSa K (bkA K)) := ⟨_, _, ok_sa FSa hBr, FSa.kp, bSa, (gm "steps_at" (by decide))⟩
  have hCo : Has l.prog w K mg base (L2.CX l.prog w) 7 "comes" ["book", "standing", "block"] (spComes K (bkA K) (c3 K 0) (c3 K 1)) := ⟨_, _, ok_comes FCo E1 hSm hIb hBm hBr hL, FCo.kp, bCo, (gm "comes" (by decide))⟩
  have hRi : Has l.prog w K mg base (L2.CX l.prog w) 7 "ripe" ["book", "standing"] (spRipe K (bkA K) (c3 K 0)) := ⟨_, _, ok_ripe FRi B hSm hBm hSa, FRi.kp, bRi, (gm "ripe" (by decide))⟩
  have gBag : Has l.prog w K mg base CX0 1 "_law_bag" ["_law_script"] (spBag K) := ⟨_, _, ok_bag FlB B, FlB.kp, blB, (gm "_law_bag" (by decide))⟩
  have gPick : Has l.prog w K mg base CX0 1 "_law_pick" ["_law_bag_here", "_law_many"] spPick := ⟨_, _, ok_pick FlP B, FlP.kp, blP, (gm "_law_pick" (by decide))⟩
  have gSome : Has l.prog w K mg base CX0 2 "_law_some" ["_law_bag_here", "_law_things"] spSome := ⟨_, _, ok_some FlO B FlP blP (gm "_law_pick" (by decide)), FlO.kp, blO, (gm "_law_some" (by decide))⟩
  have gInt : Has l.prog w K mg base CX0 1 "_law_is_int" ["_law_thing", "_law_least", "_law_most"] (spIsInt K) := ⟨_, _, ok_isint FlI B, FlI.kp, blI, (gm "_law_is_int" (by decide))⟩
  have gDeep : Has l.prog w K mg base CX0 1 "_law_deep" [] spDeep := ⟨_, _, ok_deep FlD B, FlD.kp, blD, (gm "_law_deep" (by decide))⟩
  have gBelow : Has l.prog w K mg base CX0 1 "_law_below" ["_law_many", "_law_needs_here"] (spFarLots K) := ⟨_, _, ok_below FlBe B nst nsr, FlBe.kp, blBe, (gm "_law_below" (by decide))⟩
  have gParts : Has l.prog w K mg base CX0 3 "_law_parts" ["_law_bag_here", "_law_most", "_law_blocks"] (spParts K) := ⟨_, _, ok_parts FlR B nsr FlP blP (gm "_law_pick" (by decide)) FlO blO (gm "_law_some" (by decide)) FlN blN (gm "_law_needs" (by decide)), FlR.kp, blR, (gm "_law_parts" (by decide))⟩
  have gClosed : Has l.prog w K mg base CX0 2 "_law_closed" ["_law_bag_here", "_law_blocks", "_law_needs_here"] (spClosed K) := ⟨_, _, ok_closed FlCl B nst nsr gPick gBelow, FlCl.kp, blCl, (gm "_law_closed" (by decide))⟩
  have gLot : Has l.prog w K mg base CX0 2 "_law_is_lot" ["_law_thing", "_law_many"] (spLawLot K) := ⟨_, _, ok_lawlot FlL B FlI blI (gm "_law_is_int" (by decide)), FlL.kp, blL, (gm "_law_is_lot" (by decide))⟩
  have gStd : Has l.prog w K mg base CX0 3 "_law_is_standing" ["_law_blocks", "_law_needs_here", "_law_thing"] (spLawSt K) := ⟨_, _, ok_lawst FlSt B gLot, FlSt.kp, blSt, (gm "_law_is_standing" (by decide))⟩
  have gLeaf : Has l.prog w K mg base CX0 1 "_law_is" ["_law_thing", "_law_due"] spLeaf := ⟨_, _, ok_leaf FlIs B, FlIs.kp, blIs, (gm "_law_is" (by decide))⟩
  have gIs : Has l.prog w K mg base CX0 2 "_law_is" ["_law_thing", "_law_due"] (spIsQ K) := ⟨_, _, fn_or ((ok_leafB FlIs B).mono (by decide)) (ok_istwo FlIs B gLeaf), FlIs.kp, blIs, (gm "_law_is" (by decide))⟩
  have gBr : Has l.prog w K mg base CX0 1 "_law_brought" ["_law_blocks", "_law_needs_here", "_law_there", "_law_block"] (spLbr K) := ⟨_, _, ok_lbr FlBr B, FlBr.kp, blBr, (gm "_law_brought" (by decide))⟩
  have gRi : Has l.prog w K mg base CX0 2 "_law_ripe" ["_law_blocks", "_law_needs_here", "_law_there"] (spLri K) := ⟨_, _, ok_lri FlRi B nst nsr gBr, FlRi.kp, blRi, (gm "_law_ripe" (by decide))⟩
  have gAl : Has l.prog w K mg base CX0 1 "_law_all_lots" ["_law_blocks", "_law_needs_here", "_law_there", "_law_block"] (spLal K) := ⟨_, _, ok_lal FlAl B, FlAl.kp, blAl, (gm "_law_all_lots" (by decide))⟩
  have gBs : Has l.prog w K mg base CX0 3 "_law_bent" ["_law_bag_here", "_law_there", "_law_many"] (spLbs K (bkA K)) := ⟨_, _, ok_lbs FlBs B nst nsr gPick gSome gDeep, FlBs.kp, blBs, (gm "_law_bent" (by decide))⟩
  have gGr : Has l.prog w K mg base CX0 8 "_law_great_right" ["_law_bag_here"] spLgr := ⟨_, _, ok_lgr FlGr B m gPick hCo hRi, FlGr.kp, blGr, (gm "_law_great_right" (by decide))⟩
  exact ok_law FlL0 B nst nsr nany I m gBag gPick gParts gClosed gBr gRi gAl gBs gStd gGr gIs hSt hCo hRi
def namesA : List PySem.Str := ["WaveError", "NoBlock", "NoStanding", "BadBook", "is_integer", "is_number", "is_number_below", "is_lot_below", "mask_of", "lot_of", "far_masks", "MOST_CHANGES", "MOST_BLOCKS", "MOST_NEEDS", "Book", "are_blocks", "check_parts", "is_need", "is_block", "is_standing", "standing_mask", "block_masks", "brought", "steps_at"]
def namesB : List PySem.Str := ["comes", "ripe", "_law_bag", "_law_pick", "_law_some", "_law_is", "_law_is_int", "_law_deep", "_law_below", "_law_needs", "_law_parts", "_law_brought", "_law_ripe", "_law_closed", "_law_is_lot", "_law_is_standing", "_law_all_lots", "_law_bent", "_law_great_right"]
abbrev R : PySem.W.OpenRow := PySem.W.OpenLaw.row PySem.Challenge.rw_ripewaves_k07_whole_what_a_write_brings
abbrev hk : PySem.W.Hook := He.hookX 6 [] fnL [] [] exB
def obT (s : PySem.W.SharedT) : He.AlX := He.obsX 6 [] fnL [] [] exB (HandSHeadRun.getT s)
theorem obT_eq (s : PySem.W.SharedT) : obT s = hk.obs s.abs := He.obsX_eq (HandSHeadRun.getT_eq s)
set_option maxHeartbeats 0 in
theorem run (w : World) : HandSHeadRun.RunEq R (PySem.W.view R.prog [48]) hk obT 12000 (namesA ++ namesB) w := by
  intro os
  kernel_rfl
end Rip
open PySem PySem.W PySem.Calls PyProof.Rows
set_option maxHeartbeats 0 in
theorem PySem.Challenge.cw_ripewaves_k07_whole_what_a_write_brings_holds : PySem.Challenge.rw_ripewaves_k07_whole_what_a_write_brings.Holds := by
  w_on; o_law
  refine HandSHeadRun.head_any (r := Rip.R) (q := view Rip.R.prog [48]) (H := Rip.hk) (ob := Rip.obT) (M := 12000) (loose := Rip.namesA ++ Rip.namesB) (d := HandSHeadRun.topDef Rip.R.prog 48) (kwd := []) Rip.obT_eq
    (by kernel_rfl) (fun s => by kernel_rfl) Rip.run (by kernel_rfl) (by kernel_rfl) (by kernel_rfl) (by rfl) (by first | assumption | decide +kernel) (by decide +kernel) ⟨rfl, rfl, rfl, rfl, rfl, by decide +kernel⟩ ?hw ?hc
  case hw => w_witness2
  case hc =>
    refine L2.walk_ofE (l := PySem.Challenge.rw_ripewaves_k07_whole_what_a_write_brings) (n := 63) (k := 9) (x := "_law_script") (CX := L2.CX0) rfl (by decide) (by kernel_rfl) ⟨rfl, by decide, by decide⟩ ?F (fun _ _ _ _ z => z)
    intro w mg fa h Y G hmg0
    obtain ⟨K, KX, c⟩ := Y
    have hmg : mg ("law" : PySem.Str) = some (.ref fa) := by
      have e : (HandSHeadRun.topDef Rip.R.prog 48).name = ("law" : PySem.Str) := by kernel_rfl
      rw [← e]
      exact hmg0
    obtain ⟨fd, hb, hF⟩ := Rip.all_mk (l := PySem.Challenge.rw_ripewaves_k07_whole_what_a_write_brings) (w := w) KX G hmg c
    exact ⟨K, fd, Rip.spLaw K, KX, hb, fun H a ns hl _ hS => ⟨a, ns, rfl, hS, hl, fun _ => rfl⟩, hF⟩

