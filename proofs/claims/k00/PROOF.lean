import PyProof.Rows.All
import Wide.All
import OpenK.AllK
import Wide.FinOn
import PyProof.EqAt
import PyProof.EqKinds
import PyProof.TupleCall
import HandS.ForMost
import HandS.Exc
import HandS.IsInst
import HandS.ExcInit
import HandS.ExcIs
import HandS.ExcValue
import HandS.ExcField
import HandS.Walk
import HandS.Zip
import HandS.More
import KE.KStateDown
import HandS.Defaults
import HandS.Head0
import HandS.Head1
import HandS.Head2
import HandS.HeadEnd
import HandS.HeadHook1
import HandS.HeadHook2
import HandS.HeadHook3
import HandS.HeadHook4
import PySem.Challenge.RW_ripewaves_k00_errors_and_their_fields
set_option Elab.async false
set_option linter.all false
set_option maxRecDepth 100000
set_option maxHeartbeats 2000000
/-! The bag of picks: how it is made of the script, how a number is picked out of it, how a thing is. -/
namespace Rip
open PySem PySem.Spec PyProof.Rows L2
def top (i : Nat) : Stmt := PySem.Challenge.pw_ripewaves_k00_errors_and_their_fields.main.body.getD i (.Pass ⟨0, 0, 0, 0⟩)
abbrev sBag : Stmt := top 46
abbrev sPick : Stmt := top 47
abbrev sSome : Stmt := top 48
/-! ### small things about heaps and lists -/
theorem same_upd {H : Hp} {p : Addr} {o : HO} (h : H p = none) : Same H (upd H p o) := fun b x e => by
  rw [upd_ne (ne_of_none e h)]
  exact e
theorem same_put {H H' : Hp} {p : Addr} {o : HO} (s : Same H H') (h : H p = none) : Same H (upd H' p o) := fun b x e => by
  rw [upd_ne (ne_of_none e h)]
  exact s _ _ e
theorem ints_cut {ns : List Int} {lo hi : Option Int} {x : V} (h : x ∈ cutV (ns.map V.int) lo hi) : ∃ n, x = .int n := by
  unfold cutV at h
  obtain ⟨n, _, e⟩ := List.mem_map.mp (List.mem_of_mem_drop (List.mem_of_mem_take h))
  exact ⟨n, e.symm⟩
theorem at_mem {α : Type} {xs : List α} {i : Nat} {x : α} (h : xs[i]? = some x) : x ∈ xs := List.mem_of_getElem? h
theorem at_lt {α : Type} {xs : List α} {i : Nat} {x : α} (h : xs[i]? = some x) : i < xs.length := (List.getElem?_eq_some_iff.mp h).1
theorem ite_ok {c : Prop} [Decidable c] {A B : Prop} (h1 : c → A) (h2 : ¬ c → B) : if decide c = true then A else B := by
  by_cases h : c
  · rw [if_pos (decide_eq_true h)]; exact h1 h
  · rw [if_neg (by simpa using h)]; exact h2 h
/-! ### the bag -/
/-- at b the bag, its list of great numbers at g -/
structure BagAt (H : Hp) (b g : Addr) : Prop where
  ob : ∃ (s c : Int) (al : V), H b = some (.lst [.int s, .int c, .ref g, al]) ∧ (al = .non ∨ ∃ m, al = .int m)
  gr : ∃ gs : List Int, H g = some (.lst (gs.map V.int))
theorem BagAt.ne {H : Hp} {b g : Addr} (h : BagAt H b g) : b ≠ g := by
  obtain ⟨s, c, al, hb, _⟩ := h.ob
  obtain ⟨gs, hg⟩ := h.gr
  refine ne_of hb hg fun e => ?_
  injection e with e
  match gs, e with
  | [_, _, _, _], e => simp at e
  | [_, _, _], e => simp at e
/-- what stood elsewhere stands -/
def SameB (b g : Addr) (H H' : Hp) : Prop := ∀ c o, H c = some o → c ≠ b → c ≠ g → H' c = some o
theorem SameB.refl (b g : Addr) (H : Hp) : SameB b g H H := fun _ _ h _ _ => h
theorem SameB.trans {b g : Addr} {H H1 H2 : Hp} (x : SameB b g H H1) (y : SameB b g H1 H2) : SameB b g H H2 := fun c o h n m => y c o (x c o h n m) n m
theorem SameB.of {b g : Addr} {H H1 : Hp} (x : Same H H1) : SameB b g H H1 := fun c o h _ _ => x c o h
theorem BagAt.same {H H' : Hp} {b g : Addr} (h : BagAt H b g) (x : Same H H') : BagAt H' b g := by
  obtain ⟨s, c, al, hb, ha⟩ := h.ob
  obtain ⟨gs, hg⟩ := h.gr
  exact ⟨⟨s, c, al, x _ _ hb, ha⟩, gs, x _ _ hg⟩
/-- the names of the builtins that stand -/
structure Blt (mg : Str → Option Value) : Prop where
  len : mg "len" = none
  int : mg "int" = none
  abs : mg "abs" = none
  sum : mg "sum" = none
  all : mg "all" = none
  zip : mg "zip" = none
  range : mg "range" = none
  enumerate : mg "enumerate" = none
  isinstance : mg "isinstance" = none
  tuple : mg "tuple" = none
  list : mg "list" = none
  bool : mg "bool" = none
section
variable {P : Program} {w : World} {K : PySem.W.Frag} {mg : Str → Option Value} {base : Heap}
def spBag (K : PySem.W.Frag) : Sp := fun vs H Q _ => ∃ (a : Addr) (ns : List Int), vs = [.ref a] ∧ SqL K H a (ns.map V.int) ∧ ns.length ≤ 63 ∧
  ∀ (b g : Addr) (H' : Hp), Same H H' → H b = none → H g = none → BagAt H' b g → Q (.ref b) H'
abbrev scBN : List Str := ["_law_script", "_law_seed", "_law_cell", "_law_great", "_law_always"]
theorem scB : FnScope scBN ["_law_script"] (defScope sBag) := ⟨rfl, rfl, rfl, by decide +kernel, rfl, by decide +kernel, by decide +kernel⟩
set_option pp.proofs false in
theorem ok_bag {f : Addr} {fd : FuncData} (F : Fun K "_law_bag" "_law_bag" sBag f fd) (T : Blt mg) : FnOk P w K mg base CX0 1 f fd ["_law_script"] (spBag K) := by
  refine F.ok scB (fun vs H Q E h => ?_) (fun cdv A outer s H vs Q E hr h => ?_)
  · obtain ⟨a, ns, rfl, _⟩ := h
    rfl
  · obtain ⟨a, ns, rfl, hS, hlen, q⟩ := h
    refine ⟨_,
      (pss_cons (ps_set (i := 1) scB.nd rfl (.inl rfl) (pe_op op_add pe_int (pe_callB call_len_seq (by rfl) T.len PySem.boot_len (pa_cons (pv 0) pa_nil))))
      (pss_cons (ps_for PassesOwn.never rfl (pi_list (pe_slice sl_list (pv 0) po_none (po_some pe_int))) (pg_name (i := 2) scB.nd rfl (.inl rfl))
        (pss_one (ps_set (i := 1) scB.nd rfl (.inl rfl) (pe_op op_mod (pe_callTy call_int1 (by rfl) T.int PyProof.Rows.boot_int (pa_cons (pe_op op_add (pe_op op_add (pe_op op_mul (pv 1) pe_int) (pe_op op_mod (pe_callTy call_int1 (by rfl) T.int PyProof.Rows.boot_int (pa_cons (pv 2) pa_nil)) pe_int)) pe_int) pa_nil)) pe_int))))
      (pss_cons (ps_setLc (i := 3) (own := [("_law_cell", 2)]) (g := (gName 2)) (tt := _) rfl scB.nd rfl rfl (sw_true rfl rfl rfl (by decide +kernel)) (pi_list (pe_slice sl_list (pv 0) po_none (po_some pe_int))) (blkOk_by (own := [("_law_cell", 2)]) (N := scBN) (sc := defScope sBag) (by decide +kernel)) (fun _ _ _ _ _ => (pg_name (i := 2) scB.nd rfl (.inl rfl))) (fun _ _ _ _ _ => (pts_one (pt_cmpR op_ge (pe_callB call_abs (by rfl) T.abs PyProof.Rows.boot_abs (pa_cons (pe_callTy call_int1 (by rfl) T.int PyProof.Rows.boot_int (pa_cons (pv 2) pa_nil)) pa_nil)) (pe_op op_pow pe_int pe_int) (nomark _)))) (fun _ _ _ _ _ => (pe_callB call_abs (by rfl) T.abs PyProof.Rows.boot_abs (pa_cons (pe_callTy call_int1 (by rfl) T.int PyProof.Rows.boot_int (pa_cons (pv 2) pa_nil)) pa_nil))))
      (pss_cons (ps_set (i := 4) scB.nd rfl (.inl rfl) pe_non)
      (pss_cons (ps_if (pw_and (pt_cmpR op_lt (pe_callB call_len_seq (by rfl) T.len PySem.boot_len (pa_cons (pv 0) pa_nil)) pe_int (nomark _)) (pw_and1 (pt_cmpR op_eq (pe_callB call_len_seq (by rfl) T.len PySem.boot_len (pa_cons (pv 3) pa_nil)) pe_int (nomark _)))).pt
        (pss_one (ps_set (i := 4) scB.nd rfl (.inl rfl) (pe_callB call_abs (by rfl) T.abs PyProof.Rows.boot_abs (pa_cons (pe_callB (cr_sum rfl) (by rfl) T.sum PyProof.Rows.boot_sum (pa_cons (pe_lc (own := [("_law_cell", 2)]) (g := (gName 2)) (tt := tYes) rfl scB.nd (pi_list (pv 0)) (blkOk_by (own := [("_law_cell", 2)]) (N := scBN) (sc := defScope sBag) (by decide +kernel)) (fun _ _ _ _ _ => (pg_name (i := 2) scB.nd rfl (.inl rfl))) (fun _ _ _ _ _ => pts_nil) (fun _ _ _ _ _ => (pe_callTy call_int1 (by rfl) T.int PyProof.Rows.boot_int (pa_cons (pv 2) pa_nil)))) pa_nil)) pa_nil)))) pss_nil)
      (pss_one (ps_ret (pe_lst (pa_cons (pv 1) (pa_cons pe_int (pa_cons (pv 3) (pa_cons (pv 4) pa_nil)))))))))))), ?_⟩
    -- the seed's start
    refine ⟨_, rfl, a, _, rfl, .inl hS, _, _, rfl, rfl, ?_⟩
    -- the loop
    refine ⟨_, rfl, 63, rfl, a, _, rfl, hS, fun c nc => ?_⟩
    have s1 : Same H (upd H c (.lst (cutV (ns.map V.int) none (some 63)))) := same_upd nc
    refine ⟨c, rfl, ⟨_, .inl (.inl upd_same)⟩, for_list (K := K) (a := c) (xs := cutV (ns.map V.int) none (some 63)) (fun i σ H2 => ∃ (s : Int) (v : Option V), σ = [some (.ref a), some (.int s), v, none, none] ∧ Same H H2 ∧ H2 c = some (.lst (cutV (ns.map V.int) none (some 63))))
      ⟨_, none, rfl, s1, upd_same⟩ (fun i σ H2 _ ⟨_, _, _, _, e⟩ => .inl (.inl e)) ?_ ?_⟩
    · rintro i y σ H2 hi ⟨s, v, rfl, s2, ec⟩
      obtain ⟨n, rfl⟩ := ints_cut (at_mem hi)
      exact ⟨_, rfl, _, _, rfl, rfl, .inr ⟨by decide, by decide⟩, _, rfl, .inl ⟨n, rfl, _, _, rfl, rfl, (by show (0 : Int) < 1000003; decide), _, _, rfl, rfl, _, _, rfl, rfl, .inl ⟨_, rfl, _, _, rfl, rfl, (by show (0 : Int) < 2147483647; decide), _, _, rfl, s2, ec⟩⟩⟩
    · rintro σ H2 ⟨s, v, rfl, s2, ec⟩
      -- the great ones
      refine ⟨_, rfl, 63, rfl, a, _, rfl, s2.seq hS, fun c2 nc2 => ?_⟩
      refine ⟨c2, rfl, ⟨_, .inl (.inl upd_same)⟩, fun D nD => ?_⟩
      have n2 : D ≠ c2 := fun e => by
        rw [e, upd_same] at nD
        cases nD
      have sD : Same H2 (upd (upd H2 c2 (.lst (cutV (ns.map V.int) none (some 63)))) D (.lst [])) := (same_upd nc2).trans (same_upd nD)
      have hl : (cutV (ns.map V.int) none (some 63)).length ≤ 63 := Nat.le_trans (cutV_length _ _ _) (by rw [List.length_map]; exact hlen)
      refine lc_list (K := K) (a := c2) (xs := cutV (ns.map V.int) none (some 63)) (fun i H3 => Same H2 H3 ∧ H3 c2 = some (.lst (cutV (ns.map V.int) none (some 63))) ∧ ∃ gs : List Int, H3 D = some (.lst (gs.map V.int)) ∧ gs.length ≤ i)
        ⟨sD, by rw [upd_ne n2.symm, upd_same], [], upd_same, Nat.zero_le _⟩ (fun i H3 _ ⟨_, e, _⟩ => .inl (.inl e)) ?_ ?_
      · rintro i y H3 hi ⟨s3, e3, gs, eD, hg⟩
        have hi' := at_lt hi
        obtain ⟨n, rfl⟩ := ints_cut (at_mem hi)
        refine ⟨rfl, _, rfl, .inl ⟨n, rfl, _, rfl, _, _, rfl, rfl, ⟨by decide, by decide, by decide⟩, _, _, rfl, rfl, _, rfl, ?_⟩⟩
        have app : ∀ (z : Int) (y : V), y = V.int z → Same H2 (upd H3 D (.lst (gs.map V.int ++ [y]))) ∧ upd H3 D (.lst (gs.map V.int ++ [y])) c2 = some (.lst (cutV (ns.map V.int) none (some 63))) ∧ ∃ gs' : List Int, upd H3 D (.lst (gs.map V.int ++ [y])) D = some (.lst (gs'.map V.int)) ∧ gs'.length ≤ i + 1 := fun z y ey => by
          subst ey
          exact ⟨same_put s3 ((same_upd nc2).free nD), by rw [upd_ne n2.symm]; exact e3, gs ++ [z], by rw [upd_same]; exact congrArg (fun l => some (HO.lst l)) (List.map_append (f := V.int) (l₁ := gs) (l₂ := [z])).symm, by rw [List.length_append]; exact Nat.succ_le_succ hg⟩
        refine ite_ok (fun _ => ?_) fun _ => ⟨s3, e3, gs, eD, by omega⟩
        exact ⟨_, rfl, .inl ⟨n, rfl, _, rfl, _, eD, (by rw [List.length_map]; exact small1000 (by omega)), app _ _ rfl⟩⟩
      · rintro H3 ⟨s3, e3, gs, eD, hg⟩
        have sH3 : Same H H3 := s2.trans s3
        have fin : ∀ (al : V) (H4 : Hp), (al = .non ∨ ∃ m, al = .int m) → Same H3 H4 → ∀ l : Addr, H4 l = none → Q (.ref l) (upd H4 l (.lst [.int s, .int 1, .ref D, al])) := fun al H4 ha s4 l nl => by
          have hD4 := s4 _ _ eD
          have nl3 : H3 l = none := s4.free nl
          have nlH : H l = none := sH3.free nl3
          have nlD : D ≠ l := ne_of_none hD4 nl
          exact q l D _ (same_put (sH3.trans s4) nlH) nlH (s2.free ((same_upd nc2).free nD)) ⟨⟨s, 1, al, upd_same, ha⟩, gs, by rw [upd_ne nlD]; exact hD4⟩
        refine ⟨_, rfl, a, _, rfl, .inl (sH3.seq hS), _, _, rfl, rfl, _, rfl, ite_ok (fun h1 => ?_) fun h1 => ?_⟩
        · refine ⟨_, rfl, D, _, rfl, .inl (.inl (.inl eD)), rfl, _, rfl, ite_ok (fun h2 => ?_) fun h2 => ?_⟩
          · refine ⟨_, rfl, a, rfl, ⟨_, sH3.seq hS⟩, fun D2 nD2 => ?_⟩
            refine lc_list (K := K) (a := a) (xs := ns.map V.int) (fun i H4 => Same H3 H4 ∧ ∃ ms : List Int, H4 D2 = some (.lst (ms.map V.int)) ∧ ms.length ≤ i)
              ⟨same_upd nD2, [], upd_same, Nat.zero_le _⟩ (fun i H4 _ ⟨s4, _⟩ => (sH3.trans s4).seq hS) ?_ ?_
            · rintro i y H4 hi ⟨s4, ms, eM, hm⟩
              have hi' := at_lt hi
              rw [List.length_map] at hi'
              obtain ⟨n, _, rfl⟩ := List.mem_map.mp (at_mem hi)
              exact ⟨rfl, _, rfl, .inl ⟨n, rfl, _, eM, (by rw [List.length_map]; exact small1000 (by omega)), same_put s4 nD2, ms ++ [n], by rw [upd_same]; exact congrArg (fun l => some (HO.lst l)) (List.map_append (f := V.int) (l₁ := ms) (l₂ := [n])).symm, by rw [List.length_append]; exact Nat.succ_le_succ hm⟩⟩
            · rintro H4 ⟨s4, ms, eM, hm⟩
              exact ⟨D2, ms, rfl, .inl (.inl eM), _, rfl, _, rfl, _, rfl, _, rfl, (by show 4 ≤ sizeLine; rw [sizeLine_eq]; decide), fin _ H4 (.inr ⟨_, rfl⟩) s4⟩
          · exact ⟨_, rfl, _, rfl, _, rfl, (by show 4 ≤ sizeLine; rw [sizeLine_eq]; decide), fin .non H3 (.inl rfl) (Same.refl _)⟩
        · exact ⟨_, rfl, _, rfl, _, rfl, (by show 4 ≤ sizeLine; rw [sizeLine_eq]; decide), fin .non H3 (.inl rfl) (Same.refl _)⟩
/-! ### a number picked: from 0 on, below m -/
def spPick : Sp := fun vs H Q _ => ∃ (b g : Addr) (m : Int), vs = [.ref b, .int m] ∧ BagAt H b g ∧ 0 < m ∧ m < 1073741824 ∧
  ∀ (r : Int) (H' : Hp), 0 ≤ r → r < m → BagAt H' b g → SameB b g H H' → Q (.int r) H'
abbrev scPN : List Str := ["_law_bag_here", "_law_many", "_law_great", "_law_digit", "_law_number"]
theorem scP : FnScope scPN ["_law_bag_here", "_law_many"] (defScope sPick) := ⟨rfl, rfl, rfl, by decide +kernel, rfl, by decide +kernel, by decide +kernel⟩
theorem mod_lo {x m : Int} (h : 0 < m) : 0 ≤ x % m := Int.emod_nonneg _ (by omega)
theorem mod_hi {x m : Int} (h : 0 < m) : x % m < m := Int.emod_lt_of_pos _ h
theorem ok_pick {f : Addr} {fd : FuncData} (F : Fun K "_law_pick" "_law_pick" sPick f fd) (T : Blt mg) : FnOk P w K mg base CX0 1 f fd ["_law_bag_here", "_law_many"] spPick := by
  refine F.ok scP (fun vs H Q E h => ?_) (fun cdv A outer s H vs Q E hr h => ?_)
  · obtain ⟨b, g, m, rfl, _⟩ := h
    rfl
  · obtain ⟨b, g, m, rfl, B, h0, h1, q⟩ := h
    obtain ⟨⟨s1, c1, al, hb, ha⟩, gs, hg⟩ := id B
    have bg : b ≠ g := B.ne
    refine ⟨_,
      (pss_cons (ps_if (pt_cmp (pc_notN (pe_ix ix_list (pv 0) pe_int (fun _ _ => rfl))))
        (pss_one (ps_ret (pe_op op_mod (pe_callTy call_int1 (by rfl) T.int PyProof.Rows.boot_int (pa_cons (pe_ix ix_list (pv 0) pe_int (fun _ _ => rfl)) pa_nil)) (pv 1)))) pss_nil)
      (pss_cons (ps_asg (pe_op op_add (pe_ix ix_list (pv 0) pe_int (fun _ _ => rfl)) pe_int) (pg_sub (pv 0) pe_int set_list))
      (pss_cons (ps_set (i := 2) scP.nd rfl (.inl rfl) (pe_ix ix_list (pv 0) pe_int (fun _ _ => rfl)))
      (pss_cons (ps_if (pt_cmpR op_gt (pe_callB call_len_seq (by rfl) T.len PySem.boot_len (pa_cons (pv 2) pa_nil)) pe_int (nomark _))
        (pss_cons (ps_set (i := 3) scP.nd rfl (.inl rfl) (pe_op op_mod (pe_callTy call_int1 (by rfl) T.int PyProof.Rows.boot_int (pa_cons (pe_ix ix_list (pv 2) pe_int (fun _ _ => rfl)) pa_nil)) (pv 1)))
        (pss_cons (ps_asg (pe_op op_fdiv (pe_callTy call_int1 (by rfl) T.int PyProof.Rows.boot_int (pa_cons (pe_ix ix_list (pv 2) pe_int (fun _ _ => rfl)) pa_nil)) (pv 1)) (pg_sub (pv 2) pe_int set_list))
        (pss_cons (ps_if (pt_cmpR op_eq (pe_ix ix_list (pv 2) pe_int (fun _ _ => rfl)) pe_int (nomark _))
          (pss_one (ps_expr (pe_bm PySem.F.plainAttrs_list PySem.F.slot_list_pop PySem.F.type_list_pop mt_popAt (pv 2) (pa_cons pe_int pa_nil)))) pss_nil)
        (pss_one (ps_ret (pv 3)))))) pss_nil)
      (pss_cons (ps_set (i := 4) scP.nd rfl (.inl rfl) (pe_op op_mod (pe_callTy call_int1 (by rfl) T.int PyProof.Rows.boot_int (pa_cons (pe_op op_mul (pe_op op_add (pe_ix ix_list (pv 0) pe_int (fun _ _ => rfl)) (pe_op op_mul pe_int (pe_ix ix_list (pv 0) pe_int (fun _ _ => rfl)))) pe_int) pa_nil)) pe_int))
      (pss_cons (ps_set (i := 4) scP.nd rfl (.inl rfl) (pe_op op_mod (pe_callTy call_int1 (by rfl) T.int PyProof.Rows.boot_int (pa_cons (pe_op op_mul (pv 4) (pe_op op_add (pe_op op_fdiv (pv 4) pe_int) pe_int)) pa_nil)) pe_int))
      (pss_cons (ps_set (i := 4) scP.nd rfl (.inl rfl) (pe_op op_mod (pe_callTy call_int1 (by rfl) T.int PyProof.Rows.boot_int (pa_cons (pe_op op_mul (pv 4) (pe_op op_add (pe_op op_fdiv (pv 4) pe_int) pe_int)) pa_nil)) pe_int))
      (pss_one (ps_ret (pe_op op_mod (pe_callTy call_int1 (by rfl) T.int PyProof.Rows.boot_int (pa_cons (pe_op op_fdiv (pv 4) pe_int) pa_nil)) (pv 1))))))))))), ?_⟩
    refine ⟨_, rfl, b, _, 3, al, rfl, rfl, .inl (.inl hb), rfl, _, rfl, ?_⟩
    rcases ha with rfl | ⟨z, rfl⟩
    · refine iteF ?_
      -- the count
      refine ⟨_, rfl, b, _, 1, _, rfl, rfl, .inl (.inl hb), rfl, _, _, rfl, rfl, _, rfl, b, _, 1, 1, rfl, rfl, hb, rfl, ?_⟩
      have hb2 : upd H b (.lst [.int s1, .int (c1 + 1), .ref g, .non]) b = some (.lst [.int s1, .int (c1 + 1), .ref g, .non]) := upd_same
      have hg2 : upd H b (.lst [.int s1, .int (c1 + 1), .ref g, .non]) g = some (.lst (gs.map V.int)) := by rw [upd_ne bg.symm]; exact hg
      have sb2 : SameB b g H (upd H b (.lst [.int s1, .int (c1 + 1), .ref g, .non])) := fun c o e n _ => by rw [upd_ne n]; exact e
      refine ⟨_, rfl, b, _, 2, _, rfl, rfl, .inl (.inl hb2), rfl, _, rfl, g, _, rfl, .inl (.inl (.inl hg2)), _, _, rfl, rfl, _, rfl, ite_ok (fun hz => ?_) fun hz => ?_⟩
      · cases gs with
        | nil => exact absurd hz (by show ¬ (0 : Int) < ((List.map V.int []).length : Int); simp)
        | cons n r =>
          refine ⟨_, rfl, g, _, 0, .int n, rfl, rfl, .inl (.inl hg2), at_of (j := 0) rfl rfl, .inl ⟨n, rfl, _, rfl, _, _, rfl, rfl, h0, ?_⟩⟩
          refine ⟨_, rfl, g, _, 0, .int n, rfl, rfl, .inl (.inl hg2), at_of (j := 0) rfl rfl, .inl ⟨n, rfl, _, rfl, _, _, rfl, rfl, ⟨h0, h1⟩, ?_⟩⟩
          refine ⟨_, rfl, g, _, 0, 0, rfl, rfl, hg2, (by unfold ixN; simp), ?_⟩
          have hb3 : ∀ o, upd (upd H b (.lst [.int s1, .int (c1 + 1), .ref g, .non])) g o b = some (.lst [.int s1, .int (c1 + 1), .ref g, .non]) := fun o => by rw [upd_ne bg]; exact hb2
          have sb3 : ∀ o, SameB b g H (upd (upd H b (.lst [.int s1, .int (c1 + 1), .ref g, .non])) g o) := fun o c u e n1 n2 => by rw [upd_ne n2, upd_ne n1]; exact e
          refine ⟨_, rfl, g, _, 0, .int (n / m), rfl, rfl, .inl (.inl upd_same), at_of (j := 0) rfl rfl, rfl, _, rfl, ite_ok (fun hd => ?_) fun hd => ?_⟩
          · refine ⟨_, rfl, .inl ⟨rfl, _, .inl (.inl upd_same)⟩, g, _, 0, 0, _, rfl, rfl, upd_same, by decide, by decide, (by unfold seqIndex?; simp), rfl, ?_⟩
            refine ⟨_, rfl, q _ _ (mod_lo h0) (mod_hi h0) ⟨⟨s1, c1 + 1, .non, ?_, .inl rfl⟩, r, ?_⟩ ?_⟩
            · rw [upd_upd]; exact hb3 _
            · exact upd_same
            · rw [upd_upd]; exact sb3 _
          · exact ⟨_, rfl, q _ _ (mod_lo h0) (mod_hi h0) ⟨⟨s1, c1 + 1, .non, hb3 _, .inl rfl⟩, (n / m) :: r, upd_same⟩ (sb3 _)⟩
      · -- the reckoned number
        refine ⟨_, rfl, b, _, 0, _, rfl, rfl, .inl (.inl hb2), rfl, _, rfl, b, _, 1, _, rfl, rfl, .inl (.inl hb2), rfl, _, _, rfl, rfl, .inl ⟨by decide, by decide⟩, _, _, rfl, rfl, _, _, rfl, rfl, .inr ⟨by decide, by decide⟩, .inl ⟨_, rfl, _, _, rfl, rfl, (by show (0 : Int) < 2147483647; decide), ?_⟩⟩
        generalize hx : ((s1 + 7919 * (c1 + 1)) * 48271) % 2147483647 = x
        have x0 : 0 ≤ x := by rw [← hx]; exact mod_lo (by decide)
        have x1 : x < 2147483647 := by rw [← hx]; exact mod_hi (by decide)
        refine ⟨_, rfl, _, rfl, _, _, rfl, rfl, ⟨by decide, by decide⟩, _, _, rfl, rfl, _, _, rfl, rfl, .inl ⟨by omega, by omega⟩, .inl ⟨_, rfl, _, _, rfl, rfl, (by show (0 : Int) < 2147483647; decide), ?_⟩⟩
        generalize hy : (x * (x / 1009 + 69621)) % 2147483647 = y
        have y0 : 0 ≤ y := by rw [← hy]; exact mod_lo (by decide)
        have y1 : y < 2147483647 := by rw [← hy]; exact mod_hi (by decide)
        refine ⟨_, rfl, _, rfl, _, _, rfl, rfl, ⟨by decide, by decide⟩, _, _, rfl, rfl, _, _, rfl, rfl, .inl ⟨by omega, by omega⟩, .inl ⟨_, rfl, _, _, rfl, rfl, (by show (0 : Int) < 2147483399; decide), ?_⟩⟩
        exact ⟨_, rfl, _, _, rfl, rfl, ⟨by decide, by decide⟩, .inl ⟨_, rfl, _, rfl, _, _, rfl, rfl, h0, q _ _ (mod_lo h0) (mod_hi h0) ⟨⟨s1, c1 + 1, .non, hb2, .inl rfl⟩, gs, hg2⟩ sb2⟩⟩
    · refine iteT ?_
      exact ⟨_, rfl, b, _, 3, _, rfl, rfl, .inl (.inl hb), rfl, .inl ⟨z, rfl, _, rfl, _, _, rfl, rfl, h0, q _ H (mod_lo h0) (mod_hi h0) B (SameB.refl _ _ _)⟩⟩
/-! ### a thing picked -/
def spSome : Sp := fun vs H Q _ => ∃ (b g t : Addr) (xs : List V), vs = [.ref b, .ref t] ∧ BagAt H b g ∧ H t = some (.lst xs) ∧ t ≠ b ∧ t ≠ g ∧ 0 < xs.length ∧ xs.length < 1073741824 ∧
  ∀ (x : V) (H' : Hp), x ∈ xs → BagAt H' b g → SameB b g H H' → Q x H'
abbrev scON : List Str := ["_law_bag_here", "_law_things"]
theorem scO : FnScope scON ["_law_bag_here", "_law_things"] (defScope sSome) := ⟨rfl, rfl, rfl, by decide +kernel, rfl, by decide +kernel, by decide +kernel⟩
theorem ok_some {f fP : Addr} {fd fdP : FuncData} (F : Fun K "_law_some" "_law_some" sSome f fd) (T : Blt mg) (FP : Fun K "_law_pick" "_law_pick" sPick fP fdP) (bP : Binds K fdP ["_law_bag_here", "_law_many"] []) (gP : mg "_law_pick" = some (.ref fP)) :
    FnOk P w K mg base CX0 2 f fd ["_law_bag_here", "_law_things"] spSome := by
  have GP : FnOk P w K mg base CX0 1 fP fdP ["_law_bag_here", "_law_many"] spPick := ok_pick FP T
  refine F.ok scO (fun vs H Q E h => ?_) (fun cdv A outer s H vs Q E hr h => ?_)
  · obtain ⟨b, g, t, xs, rfl, _⟩ := h
    rfl
  · obtain ⟨b, g, t, xs, rfl, B, ht, tb, tg, h0, h1, q⟩ := h
    refine ⟨_,
      (pss_one (ps_ret (pe_ix ix_list (pv 1) (pe_call GP hr (by rfl) gP FP.kp bP .nil pass0 (pa_cons (pv 0) (pa_cons (pe_callB call_len_seq (by rfl) T.len PySem.boot_len (pa_cons (pv 1) pa_nil)) pa_nil))) (fun _ _ => rfl)))), ?_⟩
    refine ⟨_, rfl, _, rfl, _, rfl, t, xs, rfl, .inl (.inl (.inl ht)), b, g, _, rfl, B, by omega, by omega, fun r H' r0 r1 B' sb => ?_⟩
    have hlt : r.toNat < xs.length := by omega
    exact ⟨t, xs, r, xs[r.toNat], rfl, rfl, .inl (.inl (sb t _ ht tb tg)), at_of (j := r.toNat) (by omega) (List.getElem?_eq_getElem hlt), q _ H' (List.getElem_mem hlt) B' sb⟩
end
end Rip
set_option Elab.async false
set_option linter.all false
set_option maxRecDepth 100000
set_option maxHeartbeats 2000000
/-! Errors as values: made, with an own __init__ and without one; isinstance; a field read. -/
namespace Rip
open PySem PySem.Spec PyProof.Rows L2
/-! ### isinstance of an error, whatever its dict is -/
section
variable {prog : Program} {w : World} {s : Shared} {K : PySem.W.Frag} {x D : Addr} {ox : Obj} {od : Option Obj}
theorem cls_found (C : ExcC K D) :
    PySem.W.findObj K D od "__class__" = some (.bind (.builtin "getset_descriptor.__get__") (.builtin "object.__class__")) := by
  have hc : (PySem.W.clsIn K D).isSome = true := by
    obtain ⟨cd, e, _⟩ := PySem.W.any_some C.hd
    rw [e]
    rfl
  cases od with
  | none => exact PySem.W.findObj_dataN hc C.ha C.hn C.ht
  | some o => exact PySem.W.findObj_data hc C.ha C.hn C.ht
theorem cls_read (C : ExcC K D) {A : Around} {E : Value → Shared → Prop} {Q : Option Value → Shared → Prop}
    (X : K.In s.heap) (I : PySem.W.InstAt s.heap x ox D od) (h : Q (some (.ref D)) { s with toks := s.toks + 1 }) :
    wpAny (model prog w) A (getAttr? (.ref x) "__class__") Q E s := by
  have hf := cls_found (od := od) C
  obtain ⟨hp, g, d, t, os⟩ := s
  have La := I.type (M := model prog w)
  have Lb := PySem.W.looks_findIn (M := model prog w) X C.hg
  have Lc := PySem.W.looks_findIn (M := model prog w) X C.hk
  have Ld := PySem.W.looks_find (M := model prog w) X I hf
  have Le : PySem.W.Looks (model prog w) hp
      (isInstance (.ref x) (.type "BaseException")) true := La.andThen (PySem.W.looks_subIn X C.hs)
  have z0 : (false && onTheHeap (Value.builtin "BaseException.__getattribute__")) = false :=
    rfl
  have z2 : (Value.builtin "BaseException.__getattribute__" ==
      Value.builtin "object.__getattribute__") = false := by
    decide +kernel
  have z1 : (onTheHeap (Value.ref D) && Value.builtin "BaseException.__getattribute__" ==
      Value.builtin "object.__getattribute__") = false := by
    rw [z2]
    rfl
  unfold getAttr? getAttrBy? getAttrBy
  refine wpAny_bind (wpAny_mkText (wpAny_bind (wpAny_attempt (wpAny_holding
    (wpAny_bind (La.at (wpAny_bind (Lb.at ?_))))))))
  show wpAny _ _ (if (onTheHeap (Value.ref D) && Value.builtin "BaseException.__getattribute__" ==
    Value.builtin "object.__getattribute__") = true then _ else _) _ _ _
  rw [z1, if_neg Bool.false_ne_true]
  unfold getAttrByItsOwn hookBefore
  refine wpAny_bind ?_
  rw [if_pos (show onTheHeap (Value.ref D) = true from rfl)]
  refine Lc.at (wpAny_bind (wpAny_attempt (wpAny_holding ?_)))
  unfold callGetattribute
  rw [z0, if_neg Bool.false_ne_true]
  unfold boundAndCalled
  rw [PySem.F.excAttr_ValueError.ga.bind (.ref x)]
  refine wpAny_bind (wpAny_pure ?_)
  show wpAny _ _ (call (.builtin "BaseException.__getattribute__") [.ref x, .str "__class__" t]) _ _ _
  refine wpAny_call (codeAny_call_builtin PySem.F.excAttr_ValueError.ga.plain PySem.F.entry_bexc_ga ?_)
  refine @PySem.W.check_slot (model prog w) _ _ ⟨hp, g, d, t + 1, os⟩ "BaseException.__getattribute__" "BaseException" "__getattribute__"
    (.ref x) [.str "__class__" t] [] _ (by decide +kernel) (by decide +kernel) Le
    (PySem.F.args_bexc_ga (.ref x) (.str "__class__" t)) ?_
  unfold Builtin.«object.__getattribute__»
  refine wpAny_bind (wpAny_of_eq (a := ((Value.ref x : Value), [Value.str "__class__" t]))
    (by first | rfl | (simp only [slotArgs]; rfl)) ?_)
  refine wpAny_bind (wpAny_pure (wpAny_bind (La.at (wpAny_bind (Ld.at ?_)))))
  show wpAny _ _ (holding [Value.builtin "object.__class__"]
    (call (.builtin "getset_descriptor.__get__") [.builtin "object.__class__", .ref x, .ref D]) >>= ret) _ _ _
  refine wpAny_bind (wpAny_holding (wpAny_call (PySem.W.class_get (s := ⟨hp, g, d, t + 1, os⟩)
    (ox := ox) (od := od) X I C.hm ?_)))
  refine wpAny_pure ?_
  show wpAny _ _ (handedOut (.ref D)) _ _ _
  rw [PySem.W.handedOut_of (v := .ref D) rfl]
  first
    | exact wpAny_pure (wpAny_pure h)
    | exact wpAny_pure h
    | exact wpAny_pure (wpAny_bind (wpAny_pure (wpAny_pure h)))
theorem kit_err (C : ExcC K D) : PySem.W.KitX K (.ref x) (.ref D) (fun h => ∃ ox od, PySem.W.InstAt h x ox D od) where
  ty := fun _ _ _ ⟨_, _, I⟩ => I.type
  it := fun _ _ X _ => by
    obtain ⟨cd, e, _⟩ := PySem.W.any_some C.hd
    unfold PySem.W.clsIn at e
    split at e
    · rename_i ho
      intro A' Q' E' s' k q
      unfold isType loadHead
      refine wpAny_bind (wpAny_loadPart (k _ _ (X _ _ ho)) ?_)
      exact wpAny_pure q
    · cases e
  ne := fun h tp dd its n sl X htp => by
    obtain ⟨cd, e, _⟩ := PySem.W.any_some C.hd
    refine Bool.eq_false_iff.mpr fun q => ?_
    obtain rfl : D = tp := Value.ref.inj (beq_iff_eq.mp q)
    unfold PySem.W.clsIn at e
    split at e
    · rename_i ho
      cases (X _ _ ho).symm.trans htp
    · cases e
  ca := fun X ⟨_, _, I⟩ k => cls_read C X I k
end
section
variable {X : Cx}
theorem exo_inst {P : Program} {w : World} {H : Hp} {h : Heap} {a C : Addr} {d : Option Addr} {K : PySem.W.Frag} (hok : HOk P w H h) (he : H a = some (exo a C d)) (hd : ∀ dx, d = some dx → ∃ fs, H dx = some (exd dx fs)) :
    ∃ ox od, PySem.W.InstAt h a ox C od := by
  obtain ⟨t, ho⟩ := exo_at hok he
  cases d with
  | none => exact ⟨_, none, ho, rfl, rfl, trivial⟩
  | some dx =>
    obtain ⟨fs, hf⟩ := hd dx rfl
    obtain ⟨mA, ⟨o, es, ep, e1, e2⟩, _⟩ := exd_at hok hf
    exact ⟨_, some o, ho, rfl, rfl, e1⟩
/-- isinstance(e, C), e an error that is a value -/
def rIsX (K : PySem.W.Frag) : List V → Hp → VK → Prop := fun xs H Q => ∃ (a D : Addr) (d : Option Addr) (c : V) (cv : Value) (b : Bool), xs = [.ref a, c] ∧
  H a = some (exo a D d) ∧ (∀ dx, d = some dx → ∃ fs, H dx = some (exd dx fs)) ∧ ExcC K D ∧ ClsV c cv ∧ PySem.W.kitOne K (.ref D) cv = some b ∧ Q (.bl b) H
theorem call_isX : CallR X (.builtin "isinstance") (rIsX X.K) := by
  intro pins s σ H xs us Q I r h
  obtain ⟨a, D, d, c, cv, b, rfl, ha, hd, C, hc, e, q⟩ := h
  obtain ⟨u1, u2, rfl, r1, r2⟩ := vals2 r
  cases (show u1 = Value.ref a from r1)
  have e2 := hc.eq r2
  subst e2
  exact PySem.W.kia_one (kit_err C) I.kIn (exo_inst (K := X.K) I.hok ha hd) e (fun z => nomatch z) fun tk => ⟨.bl b, H, I.tok tk, rfl, q⟩
/-- e.f, e an error that is a value -/
def tFldX (K : PySem.W.Frag) (f : Str) (te : TE) : TE := fun σ H Q => te σ H fun x H1 => ∃ (a C dx : Addr) (fs : List (Str × V)) (v : V), x = .ref a ∧ H1 a = some (exo a C (some dx)) ∧ H1 dx = some (exd dx fs) ∧
  XfC K C ∧ PySem.W.findIn K (.ref C) f = some none ∧ fs.lookup f = some v ∧ Q v H1
theorem pe_fldX {e : Expr} {te : TE} {pos : Pos} {n : Str} (he : PE X e te) (hb : attributeBase e n X.env (eval e X.env) = eval e X.env := by rfl) : PE X (.Attribute e n pos) (tFldX X.K n te) := by
  refine ⟨fun pins s σ H Q I h => ?_⟩
  refine attr_of hb (thn (he.run pins s σ H _ I h) fun u s1 ⟨x, H1, I1, rx, a, C, dx, fs, v, ex, ha, hd, T, hno, hl, q⟩ => ?_)
  subst ex
  obtain rfl : u = Value.ref a := rx
  obtain ⟨t, ho⟩ := exo_at I1.hok ha
  obtain ⟨mA, hns, hr⟩ := exd_at I1.hok hd
  obtain ⟨od, hod, hlk⟩ := lookIn_ns hns
  obtain ⟨uv, hu, ru⟩ := RelO.some_of (v := v) (o := mA n) (by rw [← hl]; exact hr n)
  have J : PySem.W.InstAt s1.heap a { cls := .ref C, dict := some dx, data := .fields #[.ref t, .none, .none, .none, .bool false, .none] } C (some od) := ⟨ho, rfl, rfl, hod⟩
  exact HandSPX.exc_get I1.kIn J T.ga T.gg T.exC (PySem.W.findObj_own T.hdC hno rfl (by rw [hlk, hu])) (handed_of ru)
    ⟨v, H1, I1.tok _, ru, q⟩
end
/-! ### an error made -/
section
variable {X : Cx} {x : Str} {C : Addr} {p pos : Pos}
/-- C(), C without an own __init__ -/
theorem pe_exc0 {bmB : List Value} {B newId initId : String} (F : ExcBaseFacts B newId initId bmB) (q : PySem.W.excIn X.K C bmB newId = true) (gC : X.mg x = some (.ref C)) (kC : PySem.W.keepIn X.K (.ref C) = true) (hg : Gl X x)
    (hdb : (x == ("__debug__" : Str)) = false := by decide) : PE X (.Call (.Name x p) [] [] pos) (fun _ H Q => ∀ a, H a = none → Q (.ref a) (upd H a (exo a C none))) := by
  refine ⟨fun pins s σ H Q I h => ?_⟩
  refine wpAny_Call_Name_kw (ld_glob I hg gC ?_ hdb)
  refine PySem.W.callWith_K0 I.kIn kC ?_
  obtain ⟨bm, N, nm, qn, bs, hdct, sn, sub, ab, col, dd, k0, k1, k2, k3, k5, mN, hC, hN, hni, T⟩ := exc_obj I.kIn q
  refine wpAny_call_exc_subT F T hC hN hni (fun h' a hm => ?_) (by show 0 ≤ sizeLine; omega)
  have hn : H a = none := I.hok.gone hm.new
  obtain ⟨t, ht, _, _⟩ := hm.there
  exact ⟨.ref a, upd H a (exo a C none), I.laidN hm.keeps hm.new hn (exo_ok ht), rfl, h a hn⟩
/-- C(e, ..), C with an own __init__ that keeps sp -/
def tMkX (C : Addr) (sp : Sp) (ta : TA) : TE := fun σ H Q => ta σ H fun vs H1 => vs.length ≤ 1000 ∧ ∀ a, H1 a = none → sp (.ref a :: vs) (upd H1 a (exo a C none)) (fun v H2 => v = .non ∧ Q (.ref a) H2) (fun _ _ _ => False)
theorem pe_excX {CX : CXT} {fI : Addr} {k : Nat} {fd : FuncData} {ps : List Str} {sp : Sp} {e : Expr} {es : List Expr} {ta : TA} (T : OexC X.K C) (iC : PySem.W.findIn X.K (.ref C) "__init__" = some (some (.ref fI))) (tI : PySem.W.typeIn X.K (.ref fI) = some (.type "function"))
    (Fn : FnOk X.prog X.w X.K X.mg X.base CX k fI fd ps sp) (hr : Room (k + 1) X.A) (hb : Binds X.K fd ps []) (hx : Passes CX X (fun _ _ _ => False)) (hg : Gl X x) (hm : X.mg x = some (.ref C)) (ha : PA X (e :: es) ta)
    (hdb : (x == ("__debug__" : Str)) = false := by decide) (he : starEach (e :: es) X.env = (false, eval e X.env) :: starEach es X.env := by rfl) (hpl : (backTo pos (starEach es X.env)).any (·.1) = false := by rfl) :
    PE X (.Call (.Name x p) (e :: es) [] pos) (tMkX C sp ta) := by
  refine ⟨fun pins s σ H Q I h => ?_⟩
  obtain ⟨nm, q, N, bs, bm, sn, sub, ab, col, dd, k0, k1, k2, k3, k5, hC, hbm⟩ := T.cls
  refine wpAny_Call_Name_kw (ld_glob I hg hm ?_ hdb)
  refine PySem.W.callWith_K (h₀ := X.base) I.ok.mod.kin T.kC
    (thn (ha.run pos pins s σ H _ I h) fun us s1 ⟨vs, H1, I1, r1, hz, q1⟩ => ⟨I1.kIn, ?_⟩) he hpl
  show wpAny _ _ (call (.ref C) us) _ _ _
  obtain ⟨hp, g, dr, tk, os⟩ := s1
  have hn : H1 (hp.objs.size + 1) = none := I1.hok.fresh (Nat.le_succ _)
  have hq := q1 (hp.objs.size + 1) hn
  have kk : ∀ b o, hp.get? b = some o → ((hp.push (PySem.W.kdv_tup us)).push (PySem.HandSPX.excO C hp.objs.size)).get? b = some o :=
    fun b o e => Heap.get?_push_of_some _ (Heap.get?_push_of_some _ e)
  have hget : ((hp.push (PySem.W.kdv_tup us)).push (PySem.HandSPX.excO C hp.objs.size)).get? (hp.objs.size + 1) =
      some (PySem.HandSPX.excO C hp.objs.size) := by
    heap_get
  have J : Inv X pins σ (upd H1 (hp.objs.size + 1) (exo (hp.objs.size + 1) C none)) ⟨(hp.push (PySem.W.kdv_tup us)).push (PySem.HandSPX.excO C hp.objs.size), g, dr, tk, os⟩ :=
    I1.laid (t' := tk) (a := hp.objs.size + 1) (h' := (hp.push (PySem.W.kdv_tup us)).push (PySem.HandSPX.excO C hp.objs.size)) kk (Nat.le_succ _) (exo_ok hget)
  have r2 : Vals (V.ref (hp.objs.size + 1) :: vs) (Value.ref (hp.objs.size + 1) :: us) := .cons rfl r1
  have hl : (Value.ref (hp.objs.size + 1) :: us).length = ps.length := by
    have e := r2.length
    rw [Fn.len _ _ _ _ hq] at e
    exact e.symm
  have hus : us.length ≤ sizeLine := by
    rw [← Paired.length r1, sizeLine_eq]
    omega
  refine wpAny_call (PySem.HandSPX.call_own F.excBase_ValueError (fun Y => PySem.HandSPX.refsVE_contains Y bm hbm) (I1.kIn _ _ hC)
    (PySem.W.looks_findIn I1.kIn iC) (fun self => PySem.W.bind_fn I1.kIn self tI) hus ?_)
  refine codeAny_mono (Fn.run _ X.stack _ _ ⟨Value.ref (hp.objs.size + 1) :: us, []⟩ (Value.ref (hp.objs.size + 1) :: us) _ _ (fun _ _ _ => False)
    (hr.make C us []) (J.env0.make C us []) ?_ r2 hq) fun r s' hq' => ?_
  · have b := hb _ (Value.ref (hp.objs.size + 1) :: us) J.kIn (by rw [List.append_nil]; exact hl)
    rw [List.append_nil] at b
    exact b
  · cases r with
    | error er => exact hx pins σ _ _ er s' J hq'
    | ok fl =>
      cases fl with
      | ret u =>
        obtain ⟨v, H2, I3, rv, ev, q3⟩ := J.after hq'
        subst ev
        exact ⟨rv, V.ref (hp.objs.size + 1), H2, I3, rfl, q3⟩
      | next => exact False.elim hq'
      | brk => exact False.elim hq'
      | cont => exact False.elim hq'
end
end Rip
set_option Elab.async false
set_option linter.all false
set_option maxRecDepth 100000
set_option maxHeartbeats 2000000
/-! The 43 error classes: what the top says of them; their flags and fields. -/
namespace Rip
open PySem PySem.Spec PyProof.Rows L2
abbrev sIs : Stmt := top 49
abbrev sDeep : Stmt := top 50
abbrev sFlags : Stmt := top 51
abbrev sFields : Stmt := top 52
abbrev sLaw : Stmt := top 53
/-- the classes' names, in the order in which the law takes them -/
def nmL : List String := ["NoChange", "NoLot", "NoBlock", "NoStanding", "SameBlock", "BadSizes", "NoField", "NoWorth", "NoNeeds", "NotWaiting",
  "NoNumbers", "NotTwo", "NoNumber", "NoOrder", "NoRow", "NoRule", "BadBlocks", "NotWilling", "NoLog", "BadSlots",
  "NoWord", "Full", "NoRecord", "SameRecord", "NoSlot", "NoLine", "NoLines", "KnownNeed", "InRing", "NoNeed", "NothingDone",
  "BadBook", "RingApart", "BadRow", "TooMany", "NotRipe", "Late", "Needed", "BadText", "BadList", "BadWriter", "Tied", "BadTale"]
def nm (i : Nat) : Str := PySem.Str.ofString (nmL.getD i "NoChange")
/-- the fields, from the class 31 on -/
def flL : List String := ["part", "lot", "index", "most", "block", "triple", "other", "line", "which", "row", "other", "line"]
def fl (i : Nat) : Str := PySem.Str.ofString (flL.getD (i - 31) "part")
abbrev bmVE : List Value := [.type "ValueError", .type "Exception", .type "BaseException", .type "object"]
structure ClsT (K : PySem.W.Frag) (mg : Str → Option Value) (C : Nat → Addr) (Wv : Addr) : Prop where
  g : ∀ i, i < 43 → mg (nm i) = some (.ref (C i))
  gW : mg "WaveError" = some (.ref Wv)
  gV : mg "ValueError" = none
  ex : ∀ i, i < 43 → ExcC K (C i)
  kp : ∀ i, i < 43 → PySem.W.keepIn K (.ref (C i)) = true
  no : ∀ i, i < 31 → PySem.W.excIn K (C i) bmVE "ValueError.__new__" = true
  kit : ∀ i j, i < 43 → j < 43 → PySem.W.kitOne K (.ref (C i)) (.ref (C j)) = some (decide (j = i))
  kitW : ∀ i, i < 43 → PySem.W.kitOne K (.ref (C i)) (.ref Wv) = some true
  kitV : ∀ i, i < 43 → PySem.W.kitOne K (.ref (C i)) (.type "ValueError") = some true
  nof : ∀ i, 31 ≤ i → i < 43 → PySem.W.findIn K (.ref (C i)) (fl i) = some none
theorem ClsT.xf {K : PySem.W.Frag} {mg : Str → Option Value} {C : Nat → Addr} {Wv : Addr} (T : ClsT K mg C Wv) {i : Nat} (h : i < 43) : XfC K (C i) :=
  ⟨(T.ex i h).hg, (T.ex i h).hk, (T.ex i h).hs, (T.ex i h).hd⟩
/-- at a an error of the class i, with the field v if there is one -/
def ErrAt (C : Nat → Addr) (H : Hp) (a : Addr) (i : Nat) (v : V) : Prop :=
  ∃ d, H a = some (exo a (C i) d) ∧ (∀ dx, d = some dx → H dx = some (exd dx [(fl i, v)])) ∧ (31 ≤ i → ∃ dx, d = some dx)
theorem ErrAt.same {C : Nat → Addr} {H H' : Hp} {a : Addr} {i : Nat} {v : V} (h : ErrAt C H a i v) (s : Same H H') : ErrAt C H' a i v := by
  obtain ⟨d, h1, h2, h3⟩ := h
  exact ⟨d, s _ _ h1, fun dx e => s _ _ (h2 dx e), h3⟩
theorem iteN {c : Prop} [Decidable c] {A B : Prop} (hc : ¬ c) (h : B) : if decide c = true then A else B := by
  rw [if_neg (by simpa using hc)]
  exact h
theorem iteY {c : Prop} [Decidable c] {A B : Prop} (hc : c) (h : A) : if decide c = true then A else B := by
  rw [if_pos (decide_eq_true hc)]
  exact h
theorem cat_step {H0 H1 : Hp} {p : Addr} {L zs : List V} {Q : V → Hp → Prop} (s : Same H0 H1) (np : H0 p = none) (e : H1 p = some (.lst L)) (hz : L.length + zs.length ≤ 1000)
    (k : ∀ (p' : Addr) (H' : Hp), Same H0 H' → H0 p' = none → H' p' = some (.lst (L ++ zs)) → Q (.ref p') H') :
    zs.length ≤ sizeLine ∧ ∀ l, H1 l = none → rCat (.ref p) (.ref l) (upd H1 l (.lst zs)) Q := by
  have hs : 1000 ≤ sizeLine := by rw [sizeLine_eq]; decide
  refine ⟨by omega, fun l nl => ⟨p, l, L, zs, rfl, rfl, ?_, upd_same, by omega, fun p' np' => ?_⟩⟩
  · rw [upd_ne (ne_of_none e nl)]
    exact e
  · have n1 : H0 p' = none := (same_put s (s.free nl)).free np'
    exact k p' _ (same_put (same_put s (s.free nl)) n1) n1 upd_same
/-- the slots written out anew -/
theorem st_eq {t : TS} {D : Ends} {σ σ' : L2.St} {H : Hp} (e : σ = σ') (h : t D σ' H) : t D σ H := by
  rw [e]
  exact h
/-- the first n flags of an error of the class i -/
def flg (i n : Nat) : List V := (List.range n).map fun j => .bl (decide (j = i))
theorem flg_three (i n : Nat) : flg i n ++ [.bl (decide (n = i)), .bl (decide (n + 1 = i)), .bl (decide (n + 2 = i))] = flg i (n + 3) := by
  unfold flg
  simp [List.range_succ]
theorem flg_one (i n : Nat) : flg i n ++ [.bl (decide (n = i))] = flg i (n + 1) := by
  unfold flg
  simp [List.range_succ]
theorem flg_len (i n : Nat) : (flg i n).length = n := by
  unfold flg
  simp
theorem flg_step {H0 H1 : Hp} {p : Addr} {i : Nat} (n m : Nat) (zs : List V) {Q : V → Hp → Prop} (s : Same H0 H1) (np : H0 p = none) (e : H1 p = some (.lst (flg i n))) (hz : flg i n ++ zs = flg i m) (hm : m ≤ 100)
    (k : ∀ (p' : Addr) (H' : Hp), Same H0 H' → H0 p' = none → H' p' = some (.lst (flg i m)) → Q (.ref p') H') :
    zs.length ≤ sizeLine ∧ ∀ l, H1 l = none → rCat (.ref p) (.ref l) (upd H1 l (.lst zs)) Q := by
  have hl : (flg i n).length + zs.length = m := by
    rw [← List.length_append, hz, flg_len]
  refine cat_step s np e (by omega) fun p' H' s' n' e' => ?_
  rw [hz] at e'
  exact k p' H' s' n' e'
section
variable {P : Program} {w : World} {K : PySem.W.Frag} {mg : Str → Option Value} {base : Heap} {C : Nat → Addr} {Wv : Addr}
theorem isi_of (T : ClsT K mg C Wv) {H : Hp} {a : Addr} {i : Nat} {v : V} (hi : i < 43) (A : ErrAt C H a i v) (j : Nat) (hj : j < 43) {H1 : Hp} (s : Same H H1) {Q : VK} (q : Q (.bl (decide (j = i))) H1) :
    rIsX K [.ref a, .ref (C j)] H1 Q := by
  obtain ⟨d, h1, h2, _⟩ := A.same s
  exact ⟨a, C i, d, _, _, _, rfl, h1, fun dx e => ⟨_, h2 dx e⟩, T.ex i hi, .own _, T.kit i j hi hj, q⟩
/-! ### an error's own __init__ -/
def spInit (C : Addr) (f : Str) : Sp := fun vs H Q _ => ∃ (a : Addr) (v : V), vs = [.ref a, v] ∧ H a = some (exo a C none) ∧
  ∀ dx, H dx = none → dx ≠ a → Q .non (upd (upd H dx (exd dx [(f, v)])) a (exo a C (some dx)))
theorem ok_init {f D : Addr} {fd : FuncData} {st : Stmt} {qual fld : Str} {p1 p2 p3 p4 : Pos} (hb : defBody st = [.Assign [.Attribute (.Name "self" p1) fld p2] (.Name fld p3) p4])
    (S : FnScope ["self", fld] ["self", fld] (defScope st)) (F : Fun K "__init__" qual st f fd) (O : OexC K D) (hn : PySem.W.findIn K (.ref D) fld = some none) (hdb : (fld == ("__debug__" : Str)) = false) (hcd : (fld == ("__classdict__" : Str)) = false) :
    FnOk P w K mg base CX0 1 f fd ["self", fld] (spInit D fld) := by
  refine F.ok S (fun vs H Q E h => ?_) (fun cdv A outer s H vs Q E hr h => ?_)
  · obtain ⟨a, v, rfl, _⟩ := h
    rfl
  · obtain ⟨a, v, rfl, ha, k⟩ := h
    rw [hb]
    have v0 : Vis (defScope st) "self" := (S.par "self" (by simp)).imp id Or.inl
    have v1 : Vis (defScope st) fld := (S.par fld (by simp)).imp id Or.inl
    refine ⟨_, pss_one (ps_ost (pv 0 rfl v0) (pv 1 rfl v1 hdb hcd)), ?_⟩
    exact ⟨v, rfl, .ref a, rfl, a, D, rfl, O, hn, .inl ⟨ha, fun dx n ne => k dx n ne⟩⟩
/-! ### flags -/
def spFlags (C : Nat → Addr) : Sp := fun vs H Q _ => ∃ (a : Addr) (i : Nat) (v : V), vs = [.ref a] ∧ i < 43 ∧ ErrAt C H a i v ∧
  ∀ (p : Addr) (H' : Hp), Same H H' → H p = none → H' p = some (.lst (flg i 43)) → Q (.ref p) H'
abbrev scFN : List Str := ["_law_e", "_law_flags_here"]
theorem scF : FnScope scFN ["_law_e"] (defScope sFlags) := ⟨rfl, rfl, rfl, by decide +kernel, rfl, by decide +kernel, by decide +kernel⟩
theorem ok_flags {f : Addr} {fd : FuncData} (F : Fun K "_law_flags" "_law_flags" sFlags f fd) (B : Blt mg) (T : ClsT K mg C Wv) : FnOk P w K mg base CX0 1 f fd ["_law_e"] (spFlags C) := by
  refine F.ok scF (fun vs H Q E h => ?_) (fun cdv A outer s H vs Q E hr h => ?_)
  · obtain ⟨a, i, v, rfl, _⟩ := h
    rfl
  · obtain ⟨a, i, v, rfl, hi, A0, q⟩ := h
    obtain ⟨d, a1, a2, a3⟩ := id A0
    refine ⟨_,
      (pss_cons (ps_set (i := 1) scF.nd rfl (.inl rfl) (pe_lst (pa_cons (pe_callB call_isX (by rfl) B.isinstance PyProof.Rows.boot_isinstance (pa_cons (pv 0) (pa_cons (pe_glob (v := .ref (C 0)) rfl (T.g 0 (by decide)) rfl) pa_nil))) (pa_cons (pe_callB call_isX (by rfl) B.isinstance PyProof.Rows.boot_isinstance (pa_cons (pv 0) (pa_cons (pe_glob (v := .ref (C 1)) rfl (T.g 1 (by decide)) rfl) pa_nil))) (pa_cons (pe_callB call_isX (by rfl) B.isinstance PyProof.Rows.boot_isinstance (pa_cons (pv 0) (pa_cons (pe_glob (v := .ref (C 2)) rfl (T.g 2 (by decide)) rfl) pa_nil))) pa_nil)))))
      (pss_cons (ps_set (i := 1) scF.nd rfl (.inl rfl) (pe_op op_cat (pv 1) (pe_lst (pa_cons (pe_callB call_isX (by rfl) B.isinstance PyProof.Rows.boot_isinstance (pa_cons (pv 0) (pa_cons (pe_glob (v := .ref (C 3)) rfl (T.g 3 (by decide)) rfl) pa_nil))) (pa_cons (pe_callB call_isX (by rfl) B.isinstance PyProof.Rows.boot_isinstance (pa_cons (pv 0) (pa_cons (pe_glob (v := .ref (C 4)) rfl (T.g 4 (by decide)) rfl) pa_nil))) (pa_cons (pe_callB call_isX (by rfl) B.isinstance PyProof.Rows.boot_isinstance (pa_cons (pv 0) (pa_cons (pe_glob (v := .ref (C 5)) rfl (T.g 5 (by decide)) rfl) pa_nil))) pa_nil))))))
      (pss_cons (ps_set (i := 1) scF.nd rfl (.inl rfl) (pe_op op_cat (pv 1) (pe_lst (pa_cons (pe_callB call_isX (by rfl) B.isinstance PyProof.Rows.boot_isinstance (pa_cons (pv 0) (pa_cons (pe_glob (v := .ref (C 6)) rfl (T.g 6 (by decide)) rfl) pa_nil))) (pa_cons (pe_callB call_isX (by rfl) B.isinstance PyProof.Rows.boot_isinstance (pa_cons (pv 0) (pa_cons (pe_glob (v := .ref (C 7)) rfl (T.g 7 (by decide)) rfl) pa_nil))) (pa_cons (pe_callB call_isX (by rfl) B.isinstance PyProof.Rows.boot_isinstance (pa_cons (pv 0) (pa_cons (pe_glob (v := .ref (C 8)) rfl (T.g 8 (by decide)) rfl) pa_nil))) pa_nil))))))
      (pss_cons (ps_set (i := 1) scF.nd rfl (.inl rfl) (pe_op op_cat (pv 1) (pe_lst (pa_cons (pe_callB call_isX (by rfl) B.isinstance PyProof.Rows.boot_isinstance (pa_cons (pv 0) (pa_cons (pe_glob (v := .ref (C 9)) rfl (T.g 9 (by decide)) rfl) pa_nil))) (pa_cons (pe_callB call_isX (by rfl) B.isinstance PyProof.Rows.boot_isinstance (pa_cons (pv 0) (pa_cons (pe_glob (v := .ref (C 10)) rfl (T.g 10 (by decide)) rfl) pa_nil))) (pa_cons (pe_callB call_isX (by rfl) B.isinstance PyProof.Rows.boot_isinstance (pa_cons (pv 0) (pa_cons (pe_glob (v := .ref (C 11)) rfl (T.g 11 (by decide)) rfl) pa_nil))) pa_nil))))))
      (pss_cons (ps_set (i := 1) scF.nd rfl (.inl rfl) (pe_op op_cat (pv 1) (pe_lst (pa_cons (pe_callB call_isX (by rfl) B.isinstance PyProof.Rows.boot_isinstance (pa_cons (pv 0) (pa_cons (pe_glob (v := .ref (C 12)) rfl (T.g 12 (by decide)) rfl) pa_nil))) (pa_cons (pe_callB call_isX (by rfl) B.isinstance PyProof.Rows.boot_isinstance (pa_cons (pv 0) (pa_cons (pe_glob (v := .ref (C 13)) rfl (T.g 13 (by decide)) rfl) pa_nil))) (pa_cons (pe_callB call_isX (by rfl) B.isinstance PyProof.Rows.boot_isinstance (pa_cons (pv 0) (pa_cons (pe_glob (v := .ref (C 14)) rfl (T.g 14 (by decide)) rfl) pa_nil))) pa_nil))))))
      (pss_cons (ps_set (i := 1) scF.nd rfl (.inl rfl) (pe_op op_cat (pv 1) (pe_lst (pa_cons (pe_callB call_isX (by rfl) B.isinstance PyProof.Rows.boot_isinstance (pa_cons (pv 0) (pa_cons (pe_glob (v := .ref (C 15)) rfl (T.g 15 (by decide)) rfl) pa_nil))) (pa_cons (pe_callB call_isX (by rfl) B.isinstance PyProof.Rows.boot_isinstance (pa_cons (pv 0) (pa_cons (pe_glob (v := .ref (C 16)) rfl (T.g 16 (by decide)) rfl) pa_nil))) (pa_cons (pe_callB call_isX (by rfl) B.isinstance PyProof.Rows.boot_isinstance (pa_cons (pv 0) (pa_cons (pe_glob (v := .ref (C 17)) rfl (T.g 17 (by decide)) rfl) pa_nil))) pa_nil))))))
      (pss_cons (ps_set (i := 1) scF.nd rfl (.inl rfl) (pe_op op_cat (pv 1) (pe_lst (pa_cons (pe_callB call_isX (by rfl) B.isinstance PyProof.Rows.boot_isinstance (pa_cons (pv 0) (pa_cons (pe_glob (v := .ref (C 18)) rfl (T.g 18 (by decide)) rfl) pa_nil))) (pa_cons (pe_callB call_isX (by rfl) B.isinstance PyProof.Rows.boot_isinstance (pa_cons (pv 0) (pa_cons (pe_glob (v := .ref (C 19)) rfl (T.g 19 (by decide)) rfl) pa_nil))) (pa_cons (pe_callB call_isX (by rfl) B.isinstance PyProof.Rows.boot_isinstance (pa_cons (pv 0) (pa_cons (pe_glob (v := .ref (C 20)) rfl (T.g 20 (by decide)) rfl) pa_nil))) pa_nil))))))
      (pss_cons (ps_set (i := 1) scF.nd rfl (.inl rfl) (pe_op op_cat (pv 1) (pe_lst (pa_cons (pe_callB call_isX (by rfl) B.isinstance PyProof.Rows.boot_isinstance (pa_cons (pv 0) (pa_cons (pe_glob (v := .ref (C 21)) rfl (T.g 21 (by decide)) rfl) pa_nil))) (pa_cons (pe_callB call_isX (by rfl) B.isinstance PyProof.Rows.boot_isinstance (pa_cons (pv 0) (pa_cons (pe_glob (v := .ref (C 22)) rfl (T.g 22 (by decide)) rfl) pa_nil))) (pa_cons (pe_callB call_isX (by rfl) B.isinstance PyProof.Rows.boot_isinstance (pa_cons (pv 0) (pa_cons (pe_glob (v := .ref (C 23)) rfl (T.g 23 (by decide)) rfl) pa_nil))) pa_nil))))))
      (pss_cons (ps_set (i := 1) scF.nd rfl (.inl rfl) (pe_op op_cat (pv 1) (pe_lst (pa_cons (pe_callB call_isX (by rfl) B.isinstance PyProof.Rows.boot_isinstance (pa_cons (pv 0) (pa_cons (pe_glob (v := .ref (C 24)) rfl (T.g 24 (by decide)) rfl) pa_nil))) (pa_cons (pe_callB call_isX (by rfl) B.isinstance PyProof.Rows.boot_isinstance (pa_cons (pv 0) (pa_cons (pe_glob (v := .ref (C 25)) rfl (T.g 25 (by decide)) rfl) pa_nil))) (pa_cons (pe_callB call_isX (by rfl) B.isinstance PyProof.Rows.boot_isinstance (pa_cons (pv 0) (pa_cons (pe_glob (v := .ref (C 26)) rfl (T.g 26 (by decide)) rfl) pa_nil))) pa_nil))))))
      (pss_cons (ps_set (i := 1) scF.nd rfl (.inl rfl) (pe_op op_cat (pv 1) (pe_lst (pa_cons (pe_callB call_isX (by rfl) B.isinstance PyProof.Rows.boot_isinstance (pa_cons (pv 0) (pa_cons (pe_glob (v := .ref (C 27)) rfl (T.g 27 (by decide)) rfl) pa_nil))) (pa_cons (pe_callB call_isX (by rfl) B.isinstance PyProof.Rows.boot_isinstance (pa_cons (pv 0) (pa_cons (pe_glob (v := .ref (C 28)) rfl (T.g 28 (by decide)) rfl) pa_nil))) (pa_cons (pe_callB call_isX (by rfl) B.isinstance PyProof.Rows.boot_isinstance (pa_cons (pv 0) (pa_cons (pe_glob (v := .ref (C 29)) rfl (T.g 29 (by decide)) rfl) pa_nil))) pa_nil))))))
      (pss_cons (ps_set (i := 1) scF.nd rfl (.inl rfl) (pe_op op_cat (pv 1) (pe_lst (pa_cons (pe_callB call_isX (by rfl) B.isinstance PyProof.Rows.boot_isinstance (pa_cons (pv 0) (pa_cons (pe_glob (v := .ref (C 30)) rfl (T.g 30 (by decide)) rfl) pa_nil))) (pa_cons (pe_callB call_isX (by rfl) B.isinstance PyProof.Rows.boot_isinstance (pa_cons (pv 0) (pa_cons (pe_glob (v := .ref (C 31)) rfl (T.g 31 (by decide)) rfl) pa_nil))) (pa_cons (pe_callB call_isX (by rfl) B.isinstance PyProof.Rows.boot_isinstance (pa_cons (pv 0) (pa_cons (pe_glob (v := .ref (C 32)) rfl (T.g 32 (by decide)) rfl) pa_nil))) pa_nil))))))
      (pss_cons (ps_set (i := 1) scF.nd rfl (.inl rfl) (pe_op op_cat (pv 1) (pe_lst (pa_cons (pe_callB call_isX (by rfl) B.isinstance PyProof.Rows.boot_isinstance (pa_cons (pv 0) (pa_cons (pe_glob (v := .ref (C 33)) rfl (T.g 33 (by decide)) rfl) pa_nil))) (pa_cons (pe_callB call_isX (by rfl) B.isinstance PyProof.Rows.boot_isinstance (pa_cons (pv 0) (pa_cons (pe_glob (v := .ref (C 34)) rfl (T.g 34 (by decide)) rfl) pa_nil))) (pa_cons (pe_callB call_isX (by rfl) B.isinstance PyProof.Rows.boot_isinstance (pa_cons (pv 0) (pa_cons (pe_glob (v := .ref (C 35)) rfl (T.g 35 (by decide)) rfl) pa_nil))) pa_nil))))))
      (pss_cons (ps_set (i := 1) scF.nd rfl (.inl rfl) (pe_op op_cat (pv 1) (pe_lst (pa_cons (pe_callB call_isX (by rfl) B.isinstance PyProof.Rows.boot_isinstance (pa_cons (pv 0) (pa_cons (pe_glob (v := .ref (C 36)) rfl (T.g 36 (by decide)) rfl) pa_nil))) (pa_cons (pe_callB call_isX (by rfl) B.isinstance PyProof.Rows.boot_isinstance (pa_cons (pv 0) (pa_cons (pe_glob (v := .ref (C 37)) rfl (T.g 37 (by decide)) rfl) pa_nil))) (pa_cons (pe_callB call_isX (by rfl) B.isinstance PyProof.Rows.boot_isinstance (pa_cons (pv 0) (pa_cons (pe_glob (v := .ref (C 38)) rfl (T.g 38 (by decide)) rfl) pa_nil))) pa_nil))))))
      (pss_cons (ps_set (i := 1) scF.nd rfl (.inl rfl) (pe_op op_cat (pv 1) (pe_lst (pa_cons (pe_callB call_isX (by rfl) B.isinstance PyProof.Rows.boot_isinstance (pa_cons (pv 0) (pa_cons (pe_glob (v := .ref (C 39)) rfl (T.g 39 (by decide)) rfl) pa_nil))) (pa_cons (pe_callB call_isX (by rfl) B.isinstance PyProof.Rows.boot_isinstance (pa_cons (pv 0) (pa_cons (pe_glob (v := .ref (C 40)) rfl (T.g 40 (by decide)) rfl) pa_nil))) (pa_cons (pe_callB call_isX (by rfl) B.isinstance PyProof.Rows.boot_isinstance (pa_cons (pv 0) (pa_cons (pe_glob (v := .ref (C 41)) rfl (T.g 41 (by decide)) rfl) pa_nil))) pa_nil))))))
      (pss_cons (ps_set (i := 1) scF.nd rfl (.inl rfl) (pe_op op_cat (pv 1) (pe_lst (pa_cons (pe_callB call_isX (by rfl) B.isinstance PyProof.Rows.boot_isinstance (pa_cons (pv 0) (pa_cons (pe_glob (v := .ref (C 42)) rfl (T.g 42 (by decide)) rfl) pa_nil))) pa_nil))))
      (pss_one (ps_ret (pv 1)))))))))))))))))), ?_⟩
    refine ⟨_, rfl, a, C i, d, _, _, _, rfl, (Same.refl H) _ _ a1, fun dx e => ⟨_, (Same.refl H) _ _ (a2 dx e)⟩, T.ex i hi, .own _, T.kit i 0 hi (by decide), ⟨_, rfl, a, C i, d, _, _, _, rfl, (Same.refl H) _ _ a1, fun dx e => ⟨_, (Same.refl H) _ _ (a2 dx e)⟩, T.ex i hi, .own _, T.kit i 1 hi (by decide), ⟨_, rfl, a, C i, d, _, _, _, rfl, (Same.refl H) _ _ a1, fun dx e => ⟨_, (Same.refl H) _ _ (a2 dx e)⟩, T.ex i hi, .own _, T.kit i 2 hi (by decide), ⟨by show 3 ≤ sizeLine; rw [sizeLine_eq]; decide, fun p0 n0 => ?_⟩⟩⟩⟩
    have s0 := same_upd (o := .lst [.bl (decide (0 = i)), .bl (decide (1 = i)), .bl (decide (2 = i))]) n0
    have e0 : upd H p0 (.lst [.bl (decide (0 = i)), .bl (decide (1 = i)), .bl (decide (2 = i))]) p0 = some (.lst (flg i 3)) := upd_same
    dsimp only [gName]
    refine st_eq (σ' := [some (.ref a), some (.ref p0)]) rfl ?_
    refine ⟨_, rfl, ⟨_, rfl, a, C i, d, _, _, _, rfl, (s0) _ _ a1, fun dx e => ⟨_, (s0) _ _ (a2 dx e)⟩, T.ex i hi, .own _, T.kit i 3 hi (by decide), ⟨_, rfl, a, C i, d, _, _, _, rfl, (s0) _ _ a1, fun dx e => ⟨_, (s0) _ _ (a2 dx e)⟩, T.ex i hi, .own _, T.kit i 4 hi (by decide), ⟨_, rfl, a, C i, d, _, _, _, rfl, (s0) _ _ a1, fun dx e => ⟨_, (s0) _ _ (a2 dx e)⟩, T.ex i hi, .own _, T.kit i 5 hi (by decide), (flg_step 3 6 _ s0 n0 e0 (flg_three i 3) (by decide) fun p1 H1 s1 n1 e1 => ?_)⟩⟩⟩⟩
    dsimp only [gName]
    refine st_eq (σ' := [some (.ref a), some (.ref p1)]) rfl ?_
    refine ⟨_, rfl, ⟨_, rfl, a, C i, d, _, _, _, rfl, (s1) _ _ a1, fun dx e => ⟨_, (s1) _ _ (a2 dx e)⟩, T.ex i hi, .own _, T.kit i 6 hi (by decide), ⟨_, rfl, a, C i, d, _, _, _, rfl, (s1) _ _ a1, fun dx e => ⟨_, (s1) _ _ (a2 dx e)⟩, T.ex i hi, .own _, T.kit i 7 hi (by decide), ⟨_, rfl, a, C i, d, _, _, _, rfl, (s1) _ _ a1, fun dx e => ⟨_, (s1) _ _ (a2 dx e)⟩, T.ex i hi, .own _, T.kit i 8 hi (by decide), (flg_step 6 9 _ s1 n1 e1 (flg_three i 6) (by decide) fun p2 H2 s2 n2 e2 => ?_)⟩⟩⟩⟩
    dsimp only [gName]
    refine st_eq (σ' := [some (.ref a), some (.ref p2)]) rfl ?_
    refine ⟨_, rfl, ⟨_, rfl, a, C i, d, _, _, _, rfl, (s2) _ _ a1, fun dx e => ⟨_, (s2) _ _ (a2 dx e)⟩, T.ex i hi, .own _, T.kit i 9 hi (by decide), ⟨_, rfl, a, C i, d, _, _, _, rfl, (s2) _ _ a1, fun dx e => ⟨_, (s2) _ _ (a2 dx e)⟩, T.ex i hi, .own _, T.kit i 10 hi (by decide), ⟨_, rfl, a, C i, d, _, _, _, rfl, (s2) _ _ a1, fun dx e => ⟨_, (s2) _ _ (a2 dx e)⟩, T.ex i hi, .own _, T.kit i 11 hi (by decide), (flg_step 9 12 _ s2 n2 e2 (flg_three i 9) (by decide) fun p3 H3 s3 n3 e3 => ?_)⟩⟩⟩⟩
    dsimp only [gName]
    refine st_eq (σ' := [some (.ref a), some (.ref p3)]) rfl ?_
    refine ⟨_, rfl, ⟨_, rfl, a, C i, d, _, _, _, rfl, (s3) _ _ a1, fun dx e => ⟨_, (s3) _ _ (a2 dx e)⟩, T.ex i hi, .own _, T.kit i 12 hi (by decide), ⟨_, rfl, a, C i, d, _, _, _, rfl, (s3) _ _ a1, fun dx e => ⟨_, (s3) _ _ (a2 dx e)⟩, T.ex i hi, .own _, T.kit i 13 hi (by decide), ⟨_, rfl, a, C i, d, _, _, _, rfl, (s3) _ _ a1, fun dx e => ⟨_, (s3) _ _ (a2 dx e)⟩, T.ex i hi, .own _, T.kit i 14 hi (by decide), (flg_step 12 15 _ s3 n3 e3 (flg_three i 12) (by decide) fun p4 H4 s4 n4 e4 => ?_)⟩⟩⟩⟩
    dsimp only [gName]
    refine st_eq (σ' := [some (.ref a), some (.ref p4)]) rfl ?_
    refine ⟨_, rfl, ⟨_, rfl, a, C i, d, _, _, _, rfl, (s4) _ _ a1, fun dx e => ⟨_, (s4) _ _ (a2 dx e)⟩, T.ex i hi, .own _, T.kit i 15 hi (by decide), ⟨_, rfl, a, C i, d, _, _, _, rfl, (s4) _ _ a1, fun dx e => ⟨_, (s4) _ _ (a2 dx e)⟩, T.ex i hi, .own _, T.kit i 16 hi (by decide), ⟨_, rfl, a, C i, d, _, _, _, rfl, (s4) _ _ a1, fun dx e => ⟨_, (s4) _ _ (a2 dx e)⟩, T.ex i hi, .own _, T.kit i 17 hi (by decide), (flg_step 15 18 _ s4 n4 e4 (flg_three i 15) (by decide) fun p5 H5 s5 n5 e5 => ?_)⟩⟩⟩⟩
    dsimp only [gName]
    refine st_eq (σ' := [some (.ref a), some (.ref p5)]) rfl ?_
    refine ⟨_, rfl, ⟨_, rfl, a, C i, d, _, _, _, rfl, (s5) _ _ a1, fun dx e => ⟨_, (s5) _ _ (a2 dx e)⟩, T.ex i hi, .own _, T.kit i 18 hi (by decide), ⟨_, rfl, a, C i, d, _, _, _, rfl, (s5) _ _ a1, fun dx e => ⟨_, (s5) _ _ (a2 dx e)⟩, T.ex i hi, .own _, T.kit i 19 hi (by decide), ⟨_, rfl, a, C i, d, _, _, _, rfl, (s5) _ _ a1, fun dx e => ⟨_, (s5) _ _ (a2 dx e)⟩, T.ex i hi, .own _, T.kit i 20 hi (by decide), (flg_step 18 21 _ s5 n5 e5 (flg_three i 18) (by decide) fun p6 H6 s6 n6 e6 => ?_)⟩⟩⟩⟩
    dsimp only [gName]
    refine st_eq (σ' := [some (.ref a), some (.ref p6)]) rfl ?_
    refine ⟨_, rfl, ⟨_, rfl, a, C i, d, _, _, _, rfl, (s6) _ _ a1, fun dx e => ⟨_, (s6) _ _ (a2 dx e)⟩, T.ex i hi, .own _, T.kit i 21 hi (by decide), ⟨_, rfl, a, C i, d, _, _, _, rfl, (s6) _ _ a1, fun dx e => ⟨_, (s6) _ _ (a2 dx e)⟩, T.ex i hi, .own _, T.kit i 22 hi (by decide), ⟨_, rfl, a, C i, d, _, _, _, rfl, (s6) _ _ a1, fun dx e => ⟨_, (s6) _ _ (a2 dx e)⟩, T.ex i hi, .own _, T.kit i 23 hi (by decide), (flg_step 21 24 _ s6 n6 e6 (flg_three i 21) (by decide) fun p7 H7 s7 n7 e7 => ?_)⟩⟩⟩⟩
    dsimp only [gName]
    refine st_eq (σ' := [some (.ref a), some (.ref p7)]) rfl ?_
    refine ⟨_, rfl, ⟨_, rfl, a, C i, d, _, _, _, rfl, (s7) _ _ a1, fun dx e => ⟨_, (s7) _ _ (a2 dx e)⟩, T.ex i hi, .own _, T.kit i 24 hi (by decide), ⟨_, rfl, a, C i, d, _, _, _, rfl, (s7) _ _ a1, fun dx e => ⟨_, (s7) _ _ (a2 dx e)⟩, T.ex i hi, .own _, T.kit i 25 hi (by decide), ⟨_, rfl, a, C i, d, _, _, _, rfl, (s7) _ _ a1, fun dx e => ⟨_, (s7) _ _ (a2 dx e)⟩, T.ex i hi, .own _, T.kit i 26 hi (by decide), (flg_step 24 27 _ s7 n7 e7 (flg_three i 24) (by decide) fun p8 H8 s8 n8 e8 => ?_)⟩⟩⟩⟩
    dsimp only [gName]
    refine st_eq (σ' := [some (.ref a), some (.ref p8)]) rfl ?_
    refine ⟨_, rfl, ⟨_, rfl, a, C i, d, _, _, _, rfl, (s8) _ _ a1, fun dx e => ⟨_, (s8) _ _ (a2 dx e)⟩, T.ex i hi, .own _, T.kit i 27 hi (by decide), ⟨_, rfl, a, C i, d, _, _, _, rfl, (s8) _ _ a1, fun dx e => ⟨_, (s8) _ _ (a2 dx e)⟩, T.ex i hi, .own _, T.kit i 28 hi (by decide), ⟨_, rfl, a, C i, d, _, _, _, rfl, (s8) _ _ a1, fun dx e => ⟨_, (s8) _ _ (a2 dx e)⟩, T.ex i hi, .own _, T.kit i 29 hi (by decide), (flg_step 27 30 _ s8 n8 e8 (flg_three i 27) (by decide) fun p9 H9 s9 n9 e9 => ?_)⟩⟩⟩⟩
    dsimp only [gName]
    refine st_eq (σ' := [some (.ref a), some (.ref p9)]) rfl ?_
    refine ⟨_, rfl, ⟨_, rfl, a, C i, d, _, _, _, rfl, (s9) _ _ a1, fun dx e => ⟨_, (s9) _ _ (a2 dx e)⟩, T.ex i hi, .own _, T.kit i 30 hi (by decide), ⟨_, rfl, a, C i, d, _, _, _, rfl, (s9) _ _ a1, fun dx e => ⟨_, (s9) _ _ (a2 dx e)⟩, T.ex i hi, .own _, T.kit i 31 hi (by decide), ⟨_, rfl, a, C i, d, _, _, _, rfl, (s9) _ _ a1, fun dx e => ⟨_, (s9) _ _ (a2 dx e)⟩, T.ex i hi, .own _, T.kit i 32 hi (by decide), (flg_step 30 33 _ s9 n9 e9 (flg_three i 30) (by decide) fun p10 H10 s10 n10 e10 => ?_)⟩⟩⟩⟩
    dsimp only [gName]
    refine st_eq (σ' := [some (.ref a), some (.ref p10)]) rfl ?_
    refine ⟨_, rfl, ⟨_, rfl, a, C i, d, _, _, _, rfl, (s10) _ _ a1, fun dx e => ⟨_, (s10) _ _ (a2 dx e)⟩, T.ex i hi, .own _, T.kit i 33 hi (by decide), ⟨_, rfl, a, C i, d, _, _, _, rfl, (s10) _ _ a1, fun dx e => ⟨_, (s10) _ _ (a2 dx e)⟩, T.ex i hi, .own _, T.kit i 34 hi (by decide), ⟨_, rfl, a, C i, d, _, _, _, rfl, (s10) _ _ a1, fun dx e => ⟨_, (s10) _ _ (a2 dx e)⟩, T.ex i hi, .own _, T.kit i 35 hi (by decide), (flg_step 33 36 _ s10 n10 e10 (flg_three i 33) (by decide) fun p11 H11 s11 n11 e11 => ?_)⟩⟩⟩⟩
    dsimp only [gName]
    refine st_eq (σ' := [some (.ref a), some (.ref p11)]) rfl ?_
    refine ⟨_, rfl, ⟨_, rfl, a, C i, d, _, _, _, rfl, (s11) _ _ a1, fun dx e => ⟨_, (s11) _ _ (a2 dx e)⟩, T.ex i hi, .own _, T.kit i 36 hi (by decide), ⟨_, rfl, a, C i, d, _, _, _, rfl, (s11) _ _ a1, fun dx e => ⟨_, (s11) _ _ (a2 dx e)⟩, T.ex i hi, .own _, T.kit i 37 hi (by decide), ⟨_, rfl, a, C i, d, _, _, _, rfl, (s11) _ _ a1, fun dx e => ⟨_, (s11) _ _ (a2 dx e)⟩, T.ex i hi, .own _, T.kit i 38 hi (by decide), (flg_step 36 39 _ s11 n11 e11 (flg_three i 36) (by decide) fun p12 H12 s12 n12 e12 => ?_)⟩⟩⟩⟩
    dsimp only [gName]
    refine st_eq (σ' := [some (.ref a), some (.ref p12)]) rfl ?_
    refine ⟨_, rfl, ⟨_, rfl, a, C i, d, _, _, _, rfl, (s12) _ _ a1, fun dx e => ⟨_, (s12) _ _ (a2 dx e)⟩, T.ex i hi, .own _, T.kit i 39 hi (by decide), ⟨_, rfl, a, C i, d, _, _, _, rfl, (s12) _ _ a1, fun dx e => ⟨_, (s12) _ _ (a2 dx e)⟩, T.ex i hi, .own _, T.kit i 40 hi (by decide), ⟨_, rfl, a, C i, d, _, _, _, rfl, (s12) _ _ a1, fun dx e => ⟨_, (s12) _ _ (a2 dx e)⟩, T.ex i hi, .own _, T.kit i 41 hi (by decide), (flg_step 39 42 _ s12 n12 e12 (flg_three i 39) (by decide) fun p13 H13 s13 n13 e13 => ?_)⟩⟩⟩⟩
    dsimp only [gName]
    refine st_eq (σ' := [some (.ref a), some (.ref p13)]) rfl ?_
    refine ⟨_, rfl, ⟨_, rfl, a, C i, d, _, _, _, rfl, (s13) _ _ a1, fun dx e => ⟨_, (s13) _ _ (a2 dx e)⟩, T.ex i hi, .own _, T.kit i 42 hi (by decide), (flg_step 42 43 _ s13 n13 e13 (flg_one i 42) (by decide) fun p14 H14 s14 n14 e14 => ?_)⟩⟩
    dsimp only [gName]
    refine st_eq (σ' := [some (.ref a), some (.ref p14)]) rfl ?_
    exact ⟨_, rfl, q p14 H14 s14 n14 e14⟩
/-! ### fields -/
def spFields (C : Nat → Addr) : Sp := fun vs H Q _ => ∃ (a : Addr) (i : Nat) (v : V), vs = [.ref a] ∧ i < 43 ∧ ErrAt C H a i v ∧
  ∀ (p : Addr) (H' : Hp), Same H H' → H p = none → (i < 31 → H' p = some (.lst [])) → (31 ≤ i → H' p = some (.lst [v])) → Q (.ref p) H'
abbrev scEN : List Str := ["_law_e", "_law_made"]
theorem scE : FnScope scEN ["_law_e"] (defScope sFields) := ⟨rfl, rfl, rfl, by decide +kernel, rfl, by decide +kernel, by decide +kernel⟩
theorem ok_fields {f : Addr} {fd : FuncData} (F : Fun K "_law_fields" "_law_fields" sFields f fd) (B : Blt mg) (T : ClsT K mg C Wv) : FnOk P w K mg base CX0 1 f fd ["_law_e"] (spFields C) := by
  refine F.ok scE (fun vs H Q E h => ?_) (fun cdv A outer s H vs Q E hr h => ?_)
  · obtain ⟨a, i, v, rfl, _⟩ := h
    rfl
  · obtain ⟨a, i, v, rfl, hi, A0, q⟩ := h
    refine ⟨_,
      (pss_cons (ps_set (i := 1) scE.nd rfl (.inl rfl) (pe_lst pa_nil))
      (pss_cons (ps_if (pt_val (pe_callB call_isX (by rfl) B.isinstance PyProof.Rows.boot_isinstance (pa_cons (pv 0) (pa_cons (pe_glob (v := .ref (C 31)) rfl (T.g 31 (by decide)) rfl) pa_nil)))) (pss_one (ps_expr (pe_bm PySem.F.plainAttrs_list PySem.F.slot_list_append PySem.F.type_list_append mt_append (pv 1) (pa_cons (pe_fldX (pv 0)) pa_nil)))) pss_nil)
      (pss_cons (ps_if (pt_val (pe_callB call_isX (by rfl) B.isinstance PyProof.Rows.boot_isinstance (pa_cons (pv 0) (pa_cons (pe_glob (v := .ref (C 32)) rfl (T.g 32 (by decide)) rfl) pa_nil)))) (pss_one (ps_expr (pe_bm PySem.F.plainAttrs_list PySem.F.slot_list_append PySem.F.type_list_append mt_append (pv 1) (pa_cons (pe_fldX (pv 0)) pa_nil)))) pss_nil)
      (pss_cons (ps_if (pt_val (pe_callB call_isX (by rfl) B.isinstance PyProof.Rows.boot_isinstance (pa_cons (pv 0) (pa_cons (pe_glob (v := .ref (C 33)) rfl (T.g 33 (by decide)) rfl) pa_nil)))) (pss_one (ps_expr (pe_bm PySem.F.plainAttrs_list PySem.F.slot_list_append PySem.F.type_list_append mt_append (pv 1) (pa_cons (pe_fldX (pv 0)) pa_nil)))) pss_nil)
      (pss_cons (ps_if (pt_val (pe_callB call_isX (by rfl) B.isinstance PyProof.Rows.boot_isinstance (pa_cons (pv 0) (pa_cons (pe_glob (v := .ref (C 34)) rfl (T.g 34 (by decide)) rfl) pa_nil)))) (pss_one (ps_expr (pe_bm PySem.F.plainAttrs_list PySem.F.slot_list_append PySem.F.type_list_append mt_append (pv 1) (pa_cons (pe_fldX (pv 0)) pa_nil)))) pss_nil)
      (pss_cons (ps_if (pt_val (pe_callB call_isX (by rfl) B.isinstance PyProof.Rows.boot_isinstance (pa_cons (pv 0) (pa_cons (pe_glob (v := .ref (C 35)) rfl (T.g 35 (by decide)) rfl) pa_nil)))) (pss_one (ps_expr (pe_bm PySem.F.plainAttrs_list PySem.F.slot_list_append PySem.F.type_list_append mt_append (pv 1) (pa_cons (pe_fldX (pv 0)) pa_nil)))) pss_nil)
      (pss_cons (ps_if (pt_val (pe_callB call_isX (by rfl) B.isinstance PyProof.Rows.boot_isinstance (pa_cons (pv 0) (pa_cons (pe_glob (v := .ref (C 36)) rfl (T.g 36 (by decide)) rfl) pa_nil)))) (pss_one (ps_expr (pe_bm PySem.F.plainAttrs_list PySem.F.slot_list_append PySem.F.type_list_append mt_append (pv 1) (pa_cons (pe_fldX (pv 0)) pa_nil)))) pss_nil)
      (pss_cons (ps_if (pt_val (pe_callB call_isX (by rfl) B.isinstance PyProof.Rows.boot_isinstance (pa_cons (pv 0) (pa_cons (pe_glob (v := .ref (C 37)) rfl (T.g 37 (by decide)) rfl) pa_nil)))) (pss_one (ps_expr (pe_bm PySem.F.plainAttrs_list PySem.F.slot_list_append PySem.F.type_list_append mt_append (pv 1) (pa_cons (pe_fldX (pv 0)) pa_nil)))) pss_nil)
      (pss_cons (ps_if (pt_val (pe_callB call_isX (by rfl) B.isinstance PyProof.Rows.boot_isinstance (pa_cons (pv 0) (pa_cons (pe_glob (v := .ref (C 38)) rfl (T.g 38 (by decide)) rfl) pa_nil)))) (pss_one (ps_expr (pe_bm PySem.F.plainAttrs_list PySem.F.slot_list_append PySem.F.type_list_append mt_append (pv 1) (pa_cons (pe_fldX (pv 0)) pa_nil)))) pss_nil)
      (pss_cons (ps_if (pt_val (pe_callB call_isX (by rfl) B.isinstance PyProof.Rows.boot_isinstance (pa_cons (pv 0) (pa_cons (pe_glob (v := .ref (C 39)) rfl (T.g 39 (by decide)) rfl) pa_nil)))) (pss_one (ps_expr (pe_bm PySem.F.plainAttrs_list PySem.F.slot_list_append PySem.F.type_list_append mt_append (pv 1) (pa_cons (pe_fldX (pv 0)) pa_nil)))) pss_nil)
      (pss_cons (ps_if (pt_val (pe_callB call_isX (by rfl) B.isinstance PyProof.Rows.boot_isinstance (pa_cons (pv 0) (pa_cons (pe_glob (v := .ref (C 40)) rfl (T.g 40 (by decide)) rfl) pa_nil)))) (pss_one (ps_expr (pe_bm PySem.F.plainAttrs_list PySem.F.slot_list_append PySem.F.type_list_append mt_append (pv 1) (pa_cons (pe_fldX (pv 0)) pa_nil)))) pss_nil)
      (pss_cons (ps_if (pt_val (pe_callB call_isX (by rfl) B.isinstance PyProof.Rows.boot_isinstance (pa_cons (pv 0) (pa_cons (pe_glob (v := .ref (C 41)) rfl (T.g 41 (by decide)) rfl) pa_nil)))) (pss_one (ps_expr (pe_bm PySem.F.plainAttrs_list PySem.F.slot_list_append PySem.F.type_list_append mt_append (pv 1) (pa_cons (pe_fldX (pv 0)) pa_nil)))) pss_nil)
      (pss_cons (ps_if (pt_val (pe_callB call_isX (by rfl) B.isinstance PyProof.Rows.boot_isinstance (pa_cons (pv 0) (pa_cons (pe_glob (v := .ref (C 42)) rfl (T.g 42 (by decide)) rfl) pa_nil)))) (pss_one (ps_expr (pe_bm PySem.F.plainAttrs_list PySem.F.slot_list_append PySem.F.type_list_append mt_append (pv 1) (pa_cons (pe_fldX (pv 0)) pa_nil)))) pss_nil)
      (pss_one (ps_ret (pv 1)))))))))))))))), ?_⟩
    refine ⟨Nat.zero_le _, fun l nl => ?_⟩
    have s0 : Same H (upd H l (.lst [])) := same_upd nl
    have hl : upd H l (.lst []) l = some (.lst []) := upd_same
    have hc : i < 31 ∨ i = 31 ∨ i = 32 ∨ i = 33 ∨ i = 34 ∨ i = 35 ∨ i = 36 ∨ i = 37 ∨ i = 38 ∨ i = 39 ∨ i = 40 ∨ i = 41 ∨ i = 42 := by omega
    obtain ⟨d, a1, a2, a3⟩ := id A0
    rcases hc with h | h | h | h | h | h | h | h | h | h | h | h | h
    · refine ⟨_, rfl, a, C i, d, _, _, _, rfl, s0 _ _ a1, fun dx e => ⟨_, s0 _ _ (a2 dx e)⟩, T.ex i hi, .own _, T.kit i 31 hi (by decide), _, rfl, iteN (by omega) ?_⟩
      refine ⟨_, rfl, a, C i, d, _, _, _, rfl, s0 _ _ a1, fun dx e => ⟨_, s0 _ _ (a2 dx e)⟩, T.ex i hi, .own _, T.kit i 32 hi (by decide), _, rfl, iteN (by omega) ?_⟩
      refine ⟨_, rfl, a, C i, d, _, _, _, rfl, s0 _ _ a1, fun dx e => ⟨_, s0 _ _ (a2 dx e)⟩, T.ex i hi, .own _, T.kit i 33 hi (by decide), _, rfl, iteN (by omega) ?_⟩
      refine ⟨_, rfl, a, C i, d, _, _, _, rfl, s0 _ _ a1, fun dx e => ⟨_, s0 _ _ (a2 dx e)⟩, T.ex i hi, .own _, T.kit i 34 hi (by decide), _, rfl, iteN (by omega) ?_⟩
      refine ⟨_, rfl, a, C i, d, _, _, _, rfl, s0 _ _ a1, fun dx e => ⟨_, s0 _ _ (a2 dx e)⟩, T.ex i hi, .own _, T.kit i 35 hi (by decide), _, rfl, iteN (by omega) ?_⟩
      refine ⟨_, rfl, a, C i, d, _, _, _, rfl, s0 _ _ a1, fun dx e => ⟨_, s0 _ _ (a2 dx e)⟩, T.ex i hi, .own _, T.kit i 36 hi (by decide), _, rfl, iteN (by omega) ?_⟩
      refine ⟨_, rfl, a, C i, d, _, _, _, rfl, s0 _ _ a1, fun dx e => ⟨_, s0 _ _ (a2 dx e)⟩, T.ex i hi, .own _, T.kit i 37 hi (by decide), _, rfl, iteN (by omega) ?_⟩
      refine ⟨_, rfl, a, C i, d, _, _, _, rfl, s0 _ _ a1, fun dx e => ⟨_, s0 _ _ (a2 dx e)⟩, T.ex i hi, .own _, T.kit i 38 hi (by decide), _, rfl, iteN (by omega) ?_⟩
      refine ⟨_, rfl, a, C i, d, _, _, _, rfl, s0 _ _ a1, fun dx e => ⟨_, s0 _ _ (a2 dx e)⟩, T.ex i hi, .own _, T.kit i 39 hi (by decide), _, rfl, iteN (by omega) ?_⟩
      refine ⟨_, rfl, a, C i, d, _, _, _, rfl, s0 _ _ a1, fun dx e => ⟨_, s0 _ _ (a2 dx e)⟩, T.ex i hi, .own _, T.kit i 40 hi (by decide), _, rfl, iteN (by omega) ?_⟩
      refine ⟨_, rfl, a, C i, d, _, _, _, rfl, s0 _ _ a1, fun dx e => ⟨_, s0 _ _ (a2 dx e)⟩, T.ex i hi, .own _, T.kit i 41 hi (by decide), _, rfl, iteN (by omega) ?_⟩
      refine ⟨_, rfl, a, C i, d, _, _, _, rfl, s0 _ _ a1, fun dx e => ⟨_, s0 _ _ (a2 dx e)⟩, T.ex i hi, .own _, T.kit i 42 hi (by decide), _, rfl, iteN (by omega) ?_⟩
      exact ⟨_, rfl, q l _ s0 nl (fun _ => hl) (fun z => absurd z (by omega))⟩
    · subst h
      obtain ⟨dx, rfl⟩ := a3 (by decide)
      have a4 := a2 dx rfl
      refine ⟨_, rfl, a, C 31, _, _, _, _, rfl, s0 _ _ a1, fun dx e => ⟨_, s0 _ _ (a2 dx e)⟩, T.ex 31 hi, .own _, T.kit 31 31 hi (by decide), _, rfl, iteY rfl ?_⟩
      refine ⟨_, rfl, .inl ⟨rfl, _, .inl (.inl hl)⟩, _, rfl, a, C 31, dx, _, v, rfl, s0 _ _ a1, s0 _ _ a4, T.xf hi, T.nof 31 (by decide) hi, rfl, l, _, _, rfl, rfl, hl, by decide, ?_⟩
      have s1 := same_put (o := .lst [v]) s0 nl
      refine ⟨_, rfl, a, C 31, _, _, _, _, rfl, (s1) _ _ a1, fun dx e => ⟨_, (s1) _ _ (a2 dx e)⟩, T.ex 31 hi, .own _, T.kit 31 32 hi (by decide), _, rfl, iteN (by decide) ?_⟩
      refine ⟨_, rfl, a, C 31, _, _, _, _, rfl, (s1) _ _ a1, fun dx e => ⟨_, (s1) _ _ (a2 dx e)⟩, T.ex 31 hi, .own _, T.kit 31 33 hi (by decide), _, rfl, iteN (by decide) ?_⟩
      refine ⟨_, rfl, a, C 31, _, _, _, _, rfl, (s1) _ _ a1, fun dx e => ⟨_, (s1) _ _ (a2 dx e)⟩, T.ex 31 hi, .own _, T.kit 31 34 hi (by decide), _, rfl, iteN (by decide) ?_⟩
      refine ⟨_, rfl, a, C 31, _, _, _, _, rfl, (s1) _ _ a1, fun dx e => ⟨_, (s1) _ _ (a2 dx e)⟩, T.ex 31 hi, .own _, T.kit 31 35 hi (by decide), _, rfl, iteN (by decide) ?_⟩
      refine ⟨_, rfl, a, C 31, _, _, _, _, rfl, (s1) _ _ a1, fun dx e => ⟨_, (s1) _ _ (a2 dx e)⟩, T.ex 31 hi, .own _, T.kit 31 36 hi (by decide), _, rfl, iteN (by decide) ?_⟩
      refine ⟨_, rfl, a, C 31, _, _, _, _, rfl, (s1) _ _ a1, fun dx e => ⟨_, (s1) _ _ (a2 dx e)⟩, T.ex 31 hi, .own _, T.kit 31 37 hi (by decide), _, rfl, iteN (by decide) ?_⟩
      refine ⟨_, rfl, a, C 31, _, _, _, _, rfl, (s1) _ _ a1, fun dx e => ⟨_, (s1) _ _ (a2 dx e)⟩, T.ex 31 hi, .own _, T.kit 31 38 hi (by decide), _, rfl, iteN (by decide) ?_⟩
      refine ⟨_, rfl, a, C 31, _, _, _, _, rfl, (s1) _ _ a1, fun dx e => ⟨_, (s1) _ _ (a2 dx e)⟩, T.ex 31 hi, .own _, T.kit 31 39 hi (by decide), _, rfl, iteN (by decide) ?_⟩
      refine ⟨_, rfl, a, C 31, _, _, _, _, rfl, (s1) _ _ a1, fun dx e => ⟨_, (s1) _ _ (a2 dx e)⟩, T.ex 31 hi, .own _, T.kit 31 40 hi (by decide), _, rfl, iteN (by decide) ?_⟩
      refine ⟨_, rfl, a, C 31, _, _, _, _, rfl, (s1) _ _ a1, fun dx e => ⟨_, (s1) _ _ (a2 dx e)⟩, T.ex 31 hi, .own _, T.kit 31 41 hi (by decide), _, rfl, iteN (by decide) ?_⟩
      refine ⟨_, rfl, a, C 31, _, _, _, _, rfl, (s1) _ _ a1, fun dx e => ⟨_, (s1) _ _ (a2 dx e)⟩, T.ex 31 hi, .own _, T.kit 31 42 hi (by decide), _, rfl, iteN (by decide) ?_⟩
      exact ⟨_, rfl, q l _ s1 nl (fun z => absurd z (by decide)) (fun _ => upd_same)⟩
    · subst h
      obtain ⟨dx, rfl⟩ := a3 (by decide)
      have a4 := a2 dx rfl
      refine ⟨_, rfl, a, C 32, _, _, _, _, rfl, (s0) _ _ a1, fun dx e => ⟨_, (s0) _ _ (a2 dx e)⟩, T.ex 32 hi, .own _, T.kit 32 31 hi (by decide), _, rfl, iteN (by decide) ?_⟩
      refine ⟨_, rfl, a, C 32, _, _, _, _, rfl, s0 _ _ a1, fun dx e => ⟨_, s0 _ _ (a2 dx e)⟩, T.ex 32 hi, .own _, T.kit 32 32 hi (by decide), _, rfl, iteY rfl ?_⟩
      refine ⟨_, rfl, .inl ⟨rfl, _, .inl (.inl hl)⟩, _, rfl, a, C 32, dx, _, v, rfl, s0 _ _ a1, s0 _ _ a4, T.xf hi, T.nof 32 (by decide) hi, rfl, l, _, _, rfl, rfl, hl, by decide, ?_⟩
      have s1 := same_put (o := .lst [v]) s0 nl
      refine ⟨_, rfl, a, C 32, _, _, _, _, rfl, (s1) _ _ a1, fun dx e => ⟨_, (s1) _ _ (a2 dx e)⟩, T.ex 32 hi, .own _, T.kit 32 33 hi (by decide), _, rfl, iteN (by decide) ?_⟩
      refine ⟨_, rfl, a, C 32, _, _, _, _, rfl, (s1) _ _ a1, fun dx e => ⟨_, (s1) _ _ (a2 dx e)⟩, T.ex 32 hi, .own _, T.kit 32 34 hi (by decide), _, rfl, iteN (by decide) ?_⟩
      refine ⟨_, rfl, a, C 32, _, _, _, _, rfl, (s1) _ _ a1, fun dx e => ⟨_, (s1) _ _ (a2 dx e)⟩, T.ex 32 hi, .own _, T.kit 32 35 hi (by decide), _, rfl, iteN (by decide) ?_⟩
      refine ⟨_, rfl, a, C 32, _, _, _, _, rfl, (s1) _ _ a1, fun dx e => ⟨_, (s1) _ _ (a2 dx e)⟩, T.ex 32 hi, .own _, T.kit 32 36 hi (by decide), _, rfl, iteN (by decide) ?_⟩
      refine ⟨_, rfl, a, C 32, _, _, _, _, rfl, (s1) _ _ a1, fun dx e => ⟨_, (s1) _ _ (a2 dx e)⟩, T.ex 32 hi, .own _, T.kit 32 37 hi (by decide), _, rfl, iteN (by decide) ?_⟩
      refine ⟨_, rfl, a, C 32, _, _, _, _, rfl, (s1) _ _ a1, fun dx e => ⟨_, (s1) _ _ (a2 dx e)⟩, T.ex 32 hi, .own _, T.kit 32 38 hi (by decide), _, rfl, iteN (by decide) ?_⟩
      refine ⟨_, rfl, a, C 32, _, _, _, _, rfl, (s1) _ _ a1, fun dx e => ⟨_, (s1) _ _ (a2 dx e)⟩, T.ex 32 hi, .own _, T.kit 32 39 hi (by decide), _, rfl, iteN (by decide) ?_⟩
      refine ⟨_, rfl, a, C 32, _, _, _, _, rfl, (s1) _ _ a1, fun dx e => ⟨_, (s1) _ _ (a2 dx e)⟩, T.ex 32 hi, .own _, T.kit 32 40 hi (by decide), _, rfl, iteN (by decide) ?_⟩
      refine ⟨_, rfl, a, C 32, _, _, _, _, rfl, (s1) _ _ a1, fun dx e => ⟨_, (s1) _ _ (a2 dx e)⟩, T.ex 32 hi, .own _, T.kit 32 41 hi (by decide), _, rfl, iteN (by decide) ?_⟩
      refine ⟨_, rfl, a, C 32, _, _, _, _, rfl, (s1) _ _ a1, fun dx e => ⟨_, (s1) _ _ (a2 dx e)⟩, T.ex 32 hi, .own _, T.kit 32 42 hi (by decide), _, rfl, iteN (by decide) ?_⟩
      exact ⟨_, rfl, q l _ s1 nl (fun z => absurd z (by decide)) (fun _ => upd_same)⟩
    · subst h
      obtain ⟨dx, rfl⟩ := a3 (by decide)
      have a4 := a2 dx rfl
      refine ⟨_, rfl, a, C 33, _, _, _, _, rfl, (s0) _ _ a1, fun dx e => ⟨_, (s0) _ _ (a2 dx e)⟩, T.ex 33 hi, .own _, T.kit 33 31 hi (by decide), _, rfl, iteN (by decide) ?_⟩
      refine ⟨_, rfl, a, C 33, _, _, _, _, rfl, (s0) _ _ a1, fun dx e => ⟨_, (s0) _ _ (a2 dx e)⟩, T.ex 33 hi, .own _, T.kit 33 32 hi (by decide), _, rfl, iteN (by decide) ?_⟩
      refine ⟨_, rfl, a, C 33, _, _, _, _, rfl, s0 _ _ a1, fun dx e => ⟨_, s0 _ _ (a2 dx e)⟩, T.ex 33 hi, .own _, T.kit 33 33 hi (by decide), _, rfl, iteY rfl ?_⟩
      refine ⟨_, rfl, .inl ⟨rfl, _, .inl (.inl hl)⟩, _, rfl, a, C 33, dx, _, v, rfl, s0 _ _ a1, s0 _ _ a4, T.xf hi, T.nof 33 (by decide) hi, rfl, l, _, _, rfl, rfl, hl, by decide, ?_⟩
      have s1 := same_put (o := .lst [v]) s0 nl
      refine ⟨_, rfl, a, C 33, _, _, _, _, rfl, (s1) _ _ a1, fun dx e => ⟨_, (s1) _ _ (a2 dx e)⟩, T.ex 33 hi, .own _, T.kit 33 34 hi (by decide), _, rfl, iteN (by decide) ?_⟩
      refine ⟨_, rfl, a, C 33, _, _, _, _, rfl, (s1) _ _ a1, fun dx e => ⟨_, (s1) _ _ (a2 dx e)⟩, T.ex 33 hi, .own _, T.kit 33 35 hi (by decide), _, rfl, iteN (by decide) ?_⟩
      refine ⟨_, rfl, a, C 33, _, _, _, _, rfl, (s1) _ _ a1, fun dx e => ⟨_, (s1) _ _ (a2 dx e)⟩, T.ex 33 hi, .own _, T.kit 33 36 hi (by decide), _, rfl, iteN (by decide) ?_⟩
      refine ⟨_, rfl, a, C 33, _, _, _, _, rfl, (s1) _ _ a1, fun dx e => ⟨_, (s1) _ _ (a2 dx e)⟩, T.ex 33 hi, .own _, T.kit 33 37 hi (by decide), _, rfl, iteN (by decide) ?_⟩
      refine ⟨_, rfl, a, C 33, _, _, _, _, rfl, (s1) _ _ a1, fun dx e => ⟨_, (s1) _ _ (a2 dx e)⟩, T.ex 33 hi, .own _, T.kit 33 38 hi (by decide), _, rfl, iteN (by decide) ?_⟩
      refine ⟨_, rfl, a, C 33, _, _, _, _, rfl, (s1) _ _ a1, fun dx e => ⟨_, (s1) _ _ (a2 dx e)⟩, T.ex 33 hi, .own _, T.kit 33 39 hi (by decide), _, rfl, iteN (by decide) ?_⟩
      refine ⟨_, rfl, a, C 33, _, _, _, _, rfl, (s1) _ _ a1, fun dx e => ⟨_, (s1) _ _ (a2 dx e)⟩, T.ex 33 hi, .own _, T.kit 33 40 hi (by decide), _, rfl, iteN (by decide) ?_⟩
      refine ⟨_, rfl, a, C 33, _, _, _, _, rfl, (s1) _ _ a1, fun dx e => ⟨_, (s1) _ _ (a2 dx e)⟩, T.ex 33 hi, .own _, T.kit 33 41 hi (by decide), _, rfl, iteN (by decide) ?_⟩
      refine ⟨_, rfl, a, C 33, _, _, _, _, rfl, (s1) _ _ a1, fun dx e => ⟨_, (s1) _ _ (a2 dx e)⟩, T.ex 33 hi, .own _, T.kit 33 42 hi (by decide), _, rfl, iteN (by decide) ?_⟩
      exact ⟨_, rfl, q l _ s1 nl (fun z => absurd z (by decide)) (fun _ => upd_same)⟩
    · subst h
      obtain ⟨dx, rfl⟩ := a3 (by decide)
      have a4 := a2 dx rfl
      refine ⟨_, rfl, a, C 34, _, _, _, _, rfl, (s0) _ _ a1, fun dx e => ⟨_, (s0) _ _ (a2 dx e)⟩, T.ex 34 hi, .own _, T.kit 34 31 hi (by decide), _, rfl, iteN (by decide) ?_⟩
      refine ⟨_, rfl, a, C 34, _, _, _, _, rfl, (s0) _ _ a1, fun dx e => ⟨_, (s0) _ _ (a2 dx e)⟩, T.ex 34 hi, .own _, T.kit 34 32 hi (by decide), _, rfl, iteN (by decide) ?_⟩
      refine ⟨_, rfl, a, C 34, _, _, _, _, rfl, (s0) _ _ a1, fun dx e => ⟨_, (s0) _ _ (a2 dx e)⟩, T.ex 34 hi, .own _, T.kit 34 33 hi (by decide), _, rfl, iteN (by decide) ?_⟩
      refine ⟨_, rfl, a, C 34, _, _, _, _, rfl, s0 _ _ a1, fun dx e => ⟨_, s0 _ _ (a2 dx e)⟩, T.ex 34 hi, .own _, T.kit 34 34 hi (by decide), _, rfl, iteY rfl ?_⟩
      refine ⟨_, rfl, .inl ⟨rfl, _, .inl (.inl hl)⟩, _, rfl, a, C 34, dx, _, v, rfl, s0 _ _ a1, s0 _ _ a4, T.xf hi, T.nof 34 (by decide) hi, rfl, l, _, _, rfl, rfl, hl, by decide, ?_⟩
      have s1 := same_put (o := .lst [v]) s0 nl
      refine ⟨_, rfl, a, C 34, _, _, _, _, rfl, (s1) _ _ a1, fun dx e => ⟨_, (s1) _ _ (a2 dx e)⟩, T.ex 34 hi, .own _, T.kit 34 35 hi (by decide), _, rfl, iteN (by decide) ?_⟩
      refine ⟨_, rfl, a, C 34, _, _, _, _, rfl, (s1) _ _ a1, fun dx e => ⟨_, (s1) _ _ (a2 dx e)⟩, T.ex 34 hi, .own _, T.kit 34 36 hi (by decide), _, rfl, iteN (by decide) ?_⟩
      refine ⟨_, rfl, a, C 34, _, _, _, _, rfl, (s1) _ _ a1, fun dx e => ⟨_, (s1) _ _ (a2 dx e)⟩, T.ex 34 hi, .own _, T.kit 34 37 hi (by decide), _, rfl, iteN (by decide) ?_⟩
      refine ⟨_, rfl, a, C 34, _, _, _, _, rfl, (s1) _ _ a1, fun dx e => ⟨_, (s1) _ _ (a2 dx e)⟩, T.ex 34 hi, .own _, T.kit 34 38 hi (by decide), _, rfl, iteN (by decide) ?_⟩
      refine ⟨_, rfl, a, C 34, _, _, _, _, rfl, (s1) _ _ a1, fun dx e => ⟨_, (s1) _ _ (a2 dx e)⟩, T.ex 34 hi, .own _, T.kit 34 39 hi (by decide), _, rfl, iteN (by decide) ?_⟩
      refine ⟨_, rfl, a, C 34, _, _, _, _, rfl, (s1) _ _ a1, fun dx e => ⟨_, (s1) _ _ (a2 dx e)⟩, T.ex 34 hi, .own _, T.kit 34 40 hi (by decide), _, rfl, iteN (by decide) ?_⟩
      refine ⟨_, rfl, a, C 34, _, _, _, _, rfl, (s1) _ _ a1, fun dx e => ⟨_, (s1) _ _ (a2 dx e)⟩, T.ex 34 hi, .own _, T.kit 34 41 hi (by decide), _, rfl, iteN (by decide) ?_⟩
      refine ⟨_, rfl, a, C 34, _, _, _, _, rfl, (s1) _ _ a1, fun dx e => ⟨_, (s1) _ _ (a2 dx e)⟩, T.ex 34 hi, .own _, T.kit 34 42 hi (by decide), _, rfl, iteN (by decide) ?_⟩
      exact ⟨_, rfl, q l _ s1 nl (fun z => absurd z (by decide)) (fun _ => upd_same)⟩
    · subst h
      obtain ⟨dx, rfl⟩ := a3 (by decide)
      have a4 := a2 dx rfl
      refine ⟨_, rfl, a, C 35, _, _, _, _, rfl, (s0) _ _ a1, fun dx e => ⟨_, (s0) _ _ (a2 dx e)⟩, T.ex 35 hi, .own _, T.kit 35 31 hi (by decide), _, rfl, iteN (by decide) ?_⟩
      refine ⟨_, rfl, a, C 35, _, _, _, _, rfl, (s0) _ _ a1, fun dx e => ⟨_, (s0) _ _ (a2 dx e)⟩, T.ex 35 hi, .own _, T.kit 35 32 hi (by decide), _, rfl, iteN (by decide) ?_⟩
      refine ⟨_, rfl, a, C 35, _, _, _, _, rfl, (s0) _ _ a1, fun dx e => ⟨_, (s0) _ _ (a2 dx e)⟩, T.ex 35 hi, .own _, T.kit 35 33 hi (by decide), _, rfl, iteN (by decide) ?_⟩
      refine ⟨_, rfl, a, C 35, _, _, _, _, rfl, (s0) _ _ a1, fun dx e => ⟨_, (s0) _ _ (a2 dx e)⟩, T.ex 35 hi, .own _, T.kit 35 34 hi (by decide), _, rfl, iteN (by decide) ?_⟩
      refine ⟨_, rfl, a, C 35, _, _, _, _, rfl, s0 _ _ a1, fun dx e => ⟨_, s0 _ _ (a2 dx e)⟩, T.ex 35 hi, .own _, T.kit 35 35 hi (by decide), _, rfl, iteY rfl ?_⟩
      refine ⟨_, rfl, .inl ⟨rfl, _, .inl (.inl hl)⟩, _, rfl, a, C 35, dx, _, v, rfl, s0 _ _ a1, s0 _ _ a4, T.xf hi, T.nof 35 (by decide) hi, rfl, l, _, _, rfl, rfl, hl, by decide, ?_⟩
      have s1 := same_put (o := .lst [v]) s0 nl
      refine ⟨_, rfl, a, C 35, _, _, _, _, rfl, (s1) _ _ a1, fun dx e => ⟨_, (s1) _ _ (a2 dx e)⟩, T.ex 35 hi, .own _, T.kit 35 36 hi (by decide), _, rfl, iteN (by decide) ?_⟩
      refine ⟨_, rfl, a, C 35, _, _, _, _, rfl, (s1) _ _ a1, fun dx e => ⟨_, (s1) _ _ (a2 dx e)⟩, T.ex 35 hi, .own _, T.kit 35 37 hi (by decide), _, rfl, iteN (by decide) ?_⟩
      refine ⟨_, rfl, a, C 35, _, _, _, _, rfl, (s1) _ _ a1, fun dx e => ⟨_, (s1) _ _ (a2 dx e)⟩, T.ex 35 hi, .own _, T.kit 35 38 hi (by decide), _, rfl, iteN (by decide) ?_⟩
      refine ⟨_, rfl, a, C 35, _, _, _, _, rfl, (s1) _ _ a1, fun dx e => ⟨_, (s1) _ _ (a2 dx e)⟩, T.ex 35 hi, .own _, T.kit 35 39 hi (by decide), _, rfl, iteN (by decide) ?_⟩
      refine ⟨_, rfl, a, C 35, _, _, _, _, rfl, (s1) _ _ a1, fun dx e => ⟨_, (s1) _ _ (a2 dx e)⟩, T.ex 35 hi, .own _, T.kit 35 40 hi (by decide), _, rfl, iteN (by decide) ?_⟩
      refine ⟨_, rfl, a, C 35, _, _, _, _, rfl, (s1) _ _ a1, fun dx e => ⟨_, (s1) _ _ (a2 dx e)⟩, T.ex 35 hi, .own _, T.kit 35 41 hi (by decide), _, rfl, iteN (by decide) ?_⟩
      refine ⟨_, rfl, a, C 35, _, _, _, _, rfl, (s1) _ _ a1, fun dx e => ⟨_, (s1) _ _ (a2 dx e)⟩, T.ex 35 hi, .own _, T.kit 35 42 hi (by decide), _, rfl, iteN (by decide) ?_⟩
      exact ⟨_, rfl, q l _ s1 nl (fun z => absurd z (by decide)) (fun _ => upd_same)⟩
    · subst h
      obtain ⟨dx, rfl⟩ := a3 (by decide)
      have a4 := a2 dx rfl
      refine ⟨_, rfl, a, C 36, _, _, _, _, rfl, (s0) _ _ a1, fun dx e => ⟨_, (s0) _ _ (a2 dx e)⟩, T.ex 36 hi, .own _, T.kit 36 31 hi (by decide), _, rfl, iteN (by decide) ?_⟩
      refine ⟨_, rfl, a, C 36, _, _, _, _, rfl, (s0) _ _ a1, fun dx e => ⟨_, (s0) _ _ (a2 dx e)⟩, T.ex 36 hi, .own _, T.kit 36 32 hi (by decide), _, rfl, iteN (by decide) ?_⟩
      refine ⟨_, rfl, a, C 36, _, _, _, _, rfl, (s0) _ _ a1, fun dx e => ⟨_, (s0) _ _ (a2 dx e)⟩, T.ex 36 hi, .own _, T.kit 36 33 hi (by decide), _, rfl, iteN (by decide) ?_⟩
      refine ⟨_, rfl, a, C 36, _, _, _, _, rfl, (s0) _ _ a1, fun dx e => ⟨_, (s0) _ _ (a2 dx e)⟩, T.ex 36 hi, .own _, T.kit 36 34 hi (by decide), _, rfl, iteN (by decide) ?_⟩
      refine ⟨_, rfl, a, C 36, _, _, _, _, rfl, (s0) _ _ a1, fun dx e => ⟨_, (s0) _ _ (a2 dx e)⟩, T.ex 36 hi, .own _, T.kit 36 35 hi (by decide), _, rfl, iteN (by decide) ?_⟩
      refine ⟨_, rfl, a, C 36, _, _, _, _, rfl, s0 _ _ a1, fun dx e => ⟨_, s0 _ _ (a2 dx e)⟩, T.ex 36 hi, .own _, T.kit 36 36 hi (by decide), _, rfl, iteY rfl ?_⟩
      refine ⟨_, rfl, .inl ⟨rfl, _, .inl (.inl hl)⟩, _, rfl, a, C 36, dx, _, v, rfl, s0 _ _ a1, s0 _ _ a4, T.xf hi, T.nof 36 (by decide) hi, rfl, l, _, _, rfl, rfl, hl, by decide, ?_⟩
      have s1 := same_put (o := .lst [v]) s0 nl
      refine ⟨_, rfl, a, C 36, _, _, _, _, rfl, (s1) _ _ a1, fun dx e => ⟨_, (s1) _ _ (a2 dx e)⟩, T.ex 36 hi, .own _, T.kit 36 37 hi (by decide), _, rfl, iteN (by decide) ?_⟩
      refine ⟨_, rfl, a, C 36, _, _, _, _, rfl, (s1) _ _ a1, fun dx e => ⟨_, (s1) _ _ (a2 dx e)⟩, T.ex 36 hi, .own _, T.kit 36 38 hi (by decide), _, rfl, iteN (by decide) ?_⟩
      refine ⟨_, rfl, a, C 36, _, _, _, _, rfl, (s1) _ _ a1, fun dx e => ⟨_, (s1) _ _ (a2 dx e)⟩, T.ex 36 hi, .own _, T.kit 36 39 hi (by decide), _, rfl, iteN (by decide) ?_⟩
      refine ⟨_, rfl, a, C 36, _, _, _, _, rfl, (s1) _ _ a1, fun dx e => ⟨_, (s1) _ _ (a2 dx e)⟩, T.ex 36 hi, .own _, T.kit 36 40 hi (by decide), _, rfl, iteN (by decide) ?_⟩
      refine ⟨_, rfl, a, C 36, _, _, _, _, rfl, (s1) _ _ a1, fun dx e => ⟨_, (s1) _ _ (a2 dx e)⟩, T.ex 36 hi, .own _, T.kit 36 41 hi (by decide), _, rfl, iteN (by decide) ?_⟩
      refine ⟨_, rfl, a, C 36, _, _, _, _, rfl, (s1) _ _ a1, fun dx e => ⟨_, (s1) _ _ (a2 dx e)⟩, T.ex 36 hi, .own _, T.kit 36 42 hi (by decide), _, rfl, iteN (by decide) ?_⟩
      exact ⟨_, rfl, q l _ s1 nl (fun z => absurd z (by decide)) (fun _ => upd_same)⟩
    · subst h
      obtain ⟨dx, rfl⟩ := a3 (by decide)
      have a4 := a2 dx rfl
      refine ⟨_, rfl, a, C 37, _, _, _, _, rfl, (s0) _ _ a1, fun dx e => ⟨_, (s0) _ _ (a2 dx e)⟩, T.ex 37 hi, .own _, T.kit 37 31 hi (by decide), _, rfl, iteN (by decide) ?_⟩
      refine ⟨_, rfl, a, C 37, _, _, _, _, rfl, (s0) _ _ a1, fun dx e => ⟨_, (s0) _ _ (a2 dx e)⟩, T.ex 37 hi, .own _, T.kit 37 32 hi (by decide), _, rfl, iteN (by decide) ?_⟩
      refine ⟨_, rfl, a, C 37, _, _, _, _, rfl, (s0) _ _ a1, fun dx e => ⟨_, (s0) _ _ (a2 dx e)⟩, T.ex 37 hi, .own _, T.kit 37 33 hi (by decide), _, rfl, iteN (by decide) ?_⟩
      refine ⟨_, rfl, a, C 37, _, _, _, _, rfl, (s0) _ _ a1, fun dx e => ⟨_, (s0) _ _ (a2 dx e)⟩, T.ex 37 hi, .own _, T.kit 37 34 hi (by decide), _, rfl, iteN (by decide) ?_⟩
      refine ⟨_, rfl, a, C 37, _, _, _, _, rfl, (s0) _ _ a1, fun dx e => ⟨_, (s0) _ _ (a2 dx e)⟩, T.ex 37 hi, .own _, T.kit 37 35 hi (by decide), _, rfl, iteN (by decide) ?_⟩
      refine ⟨_, rfl, a, C 37, _, _, _, _, rfl, (s0) _ _ a1, fun dx e => ⟨_, (s0) _ _ (a2 dx e)⟩, T.ex 37 hi, .own _, T.kit 37 36 hi (by decide), _, rfl, iteN (by decide) ?_⟩
      refine ⟨_, rfl, a, C 37, _, _, _, _, rfl, s0 _ _ a1, fun dx e => ⟨_, s0 _ _ (a2 dx e)⟩, T.ex 37 hi, .own _, T.kit 37 37 hi (by decide), _, rfl, iteY rfl ?_⟩
      refine ⟨_, rfl, .inl ⟨rfl, _, .inl (.inl hl)⟩, _, rfl, a, C 37, dx, _, v, rfl, s0 _ _ a1, s0 _ _ a4, T.xf hi, T.nof 37 (by decide) hi, rfl, l, _, _, rfl, rfl, hl, by decide, ?_⟩
      have s1 := same_put (o := .lst [v]) s0 nl
      refine ⟨_, rfl, a, C 37, _, _, _, _, rfl, (s1) _ _ a1, fun dx e => ⟨_, (s1) _ _ (a2 dx e)⟩, T.ex 37 hi, .own _, T.kit 37 38 hi (by decide), _, rfl, iteN (by decide) ?_⟩
      refine ⟨_, rfl, a, C 37, _, _, _, _, rfl, (s1) _ _ a1, fun dx e => ⟨_, (s1) _ _ (a2 dx e)⟩, T.ex 37 hi, .own _, T.kit 37 39 hi (by decide), _, rfl, iteN (by decide) ?_⟩
      refine ⟨_, rfl, a, C 37, _, _, _, _, rfl, (s1) _ _ a1, fun dx e => ⟨_, (s1) _ _ (a2 dx e)⟩, T.ex 37 hi, .own _, T.kit 37 40 hi (by decide), _, rfl, iteN (by decide) ?_⟩
      refine ⟨_, rfl, a, C 37, _, _, _, _, rfl, (s1) _ _ a1, fun dx e => ⟨_, (s1) _ _ (a2 dx e)⟩, T.ex 37 hi, .own _, T.kit 37 41 hi (by decide), _, rfl, iteN (by decide) ?_⟩
      refine ⟨_, rfl, a, C 37, _, _, _, _, rfl, (s1) _ _ a1, fun dx e => ⟨_, (s1) _ _ (a2 dx e)⟩, T.ex 37 hi, .own _, T.kit 37 42 hi (by decide), _, rfl, iteN (by decide) ?_⟩
      exact ⟨_, rfl, q l _ s1 nl (fun z => absurd z (by decide)) (fun _ => upd_same)⟩
    · subst h
      obtain ⟨dx, rfl⟩ := a3 (by decide)
      have a4 := a2 dx rfl
      refine ⟨_, rfl, a, C 38, _, _, _, _, rfl, (s0) _ _ a1, fun dx e => ⟨_, (s0) _ _ (a2 dx e)⟩, T.ex 38 hi, .own _, T.kit 38 31 hi (by decide), _, rfl, iteN (by decide) ?_⟩
      refine ⟨_, rfl, a, C 38, _, _, _, _, rfl, (s0) _ _ a1, fun dx e => ⟨_, (s0) _ _ (a2 dx e)⟩, T.ex 38 hi, .own _, T.kit 38 32 hi (by decide), _, rfl, iteN (by decide) ?_⟩
      refine ⟨_, rfl, a, C 38, _, _, _, _, rfl, (s0) _ _ a1, fun dx e => ⟨_, (s0) _ _ (a2 dx e)⟩, T.ex 38 hi, .own _, T.kit 38 33 hi (by decide), _, rfl, iteN (by decide) ?_⟩
      refine ⟨_, rfl, a, C 38, _, _, _, _, rfl, (s0) _ _ a1, fun dx e => ⟨_, (s0) _ _ (a2 dx e)⟩, T.ex 38 hi, .own _, T.kit 38 34 hi (by decide), _, rfl, iteN (by decide) ?_⟩
      refine ⟨_, rfl, a, C 38, _, _, _, _, rfl, (s0) _ _ a1, fun dx e => ⟨_, (s0) _ _ (a2 dx e)⟩, T.ex 38 hi, .own _, T.kit 38 35 hi (by decide), _, rfl, iteN (by decide) ?_⟩
      refine ⟨_, rfl, a, C 38, _, _, _, _, rfl, (s0) _ _ a1, fun dx e => ⟨_, (s0) _ _ (a2 dx e)⟩, T.ex 38 hi, .own _, T.kit 38 36 hi (by decide), _, rfl, iteN (by decide) ?_⟩
      refine ⟨_, rfl, a, C 38, _, _, _, _, rfl, (s0) _ _ a1, fun dx e => ⟨_, (s0) _ _ (a2 dx e)⟩, T.ex 38 hi, .own _, T.kit 38 37 hi (by decide), _, rfl, iteN (by decide) ?_⟩
      refine ⟨_, rfl, a, C 38, _, _, _, _, rfl, s0 _ _ a1, fun dx e => ⟨_, s0 _ _ (a2 dx e)⟩, T.ex 38 hi, .own _, T.kit 38 38 hi (by decide), _, rfl, iteY rfl ?_⟩
      refine ⟨_, rfl, .inl ⟨rfl, _, .inl (.inl hl)⟩, _, rfl, a, C 38, dx, _, v, rfl, s0 _ _ a1, s0 _ _ a4, T.xf hi, T.nof 38 (by decide) hi, rfl, l, _, _, rfl, rfl, hl, by decide, ?_⟩
      have s1 := same_put (o := .lst [v]) s0 nl
      refine ⟨_, rfl, a, C 38, _, _, _, _, rfl, (s1) _ _ a1, fun dx e => ⟨_, (s1) _ _ (a2 dx e)⟩, T.ex 38 hi, .own _, T.kit 38 39 hi (by decide), _, rfl, iteN (by decide) ?_⟩
      refine ⟨_, rfl, a, C 38, _, _, _, _, rfl, (s1) _ _ a1, fun dx e => ⟨_, (s1) _ _ (a2 dx e)⟩, T.ex 38 hi, .own _, T.kit 38 40 hi (by decide), _, rfl, iteN (by decide) ?_⟩
      refine ⟨_, rfl, a, C 38, _, _, _, _, rfl, (s1) _ _ a1, fun dx e => ⟨_, (s1) _ _ (a2 dx e)⟩, T.ex 38 hi, .own _, T.kit 38 41 hi (by decide), _, rfl, iteN (by decide) ?_⟩
      refine ⟨_, rfl, a, C 38, _, _, _, _, rfl, (s1) _ _ a1, fun dx e => ⟨_, (s1) _ _ (a2 dx e)⟩, T.ex 38 hi, .own _, T.kit 38 42 hi (by decide), _, rfl, iteN (by decide) ?_⟩
      exact ⟨_, rfl, q l _ s1 nl (fun z => absurd z (by decide)) (fun _ => upd_same)⟩
    · subst h
      obtain ⟨dx, rfl⟩ := a3 (by decide)
      have a4 := a2 dx rfl
      refine ⟨_, rfl, a, C 39, _, _, _, _, rfl, (s0) _ _ a1, fun dx e => ⟨_, (s0) _ _ (a2 dx e)⟩, T.ex 39 hi, .own _, T.kit 39 31 hi (by decide), _, rfl, iteN (by decide) ?_⟩
      refine ⟨_, rfl, a, C 39, _, _, _, _, rfl, (s0) _ _ a1, fun dx e => ⟨_, (s0) _ _ (a2 dx e)⟩, T.ex 39 hi, .own _, T.kit 39 32 hi (by decide), _, rfl, iteN (by decide) ?_⟩
      refine ⟨_, rfl, a, C 39, _, _, _, _, rfl, (s0) _ _ a1, fun dx e => ⟨_, (s0) _ _ (a2 dx e)⟩, T.ex 39 hi, .own _, T.kit 39 33 hi (by decide), _, rfl, iteN (by decide) ?_⟩
      refine ⟨_, rfl, a, C 39, _, _, _, _, rfl, (s0) _ _ a1, fun dx e => ⟨_, (s0) _ _ (a2 dx e)⟩, T.ex 39 hi, .own _, T.kit 39 34 hi (by decide), _, rfl, iteN (by decide) ?_⟩
      refine ⟨_, rfl, a, C 39, _, _, _, _, rfl, (s0) _ _ a1, fun dx e => ⟨_, (s0) _ _ (a2 dx e)⟩, T.ex 39 hi, .own _, T.kit 39 35 hi (by decide), _, rfl, iteN (by decide) ?_⟩
      refine ⟨_, rfl, a, C 39, _, _, _, _, rfl, (s0) _ _ a1, fun dx e => ⟨_, (s0) _ _ (a2 dx e)⟩, T.ex 39 hi, .own _, T.kit 39 36 hi (by decide), _, rfl, iteN (by decide) ?_⟩
      refine ⟨_, rfl, a, C 39, _, _, _, _, rfl, (s0) _ _ a1, fun dx e => ⟨_, (s0) _ _ (a2 dx e)⟩, T.ex 39 hi, .own _, T.kit 39 37 hi (by decide), _, rfl, iteN (by decide) ?_⟩
      refine ⟨_, rfl, a, C 39, _, _, _, _, rfl, (s0) _ _ a1, fun dx e => ⟨_, (s0) _ _ (a2 dx e)⟩, T.ex 39 hi, .own _, T.kit 39 38 hi (by decide), _, rfl, iteN (by decide) ?_⟩
      refine ⟨_, rfl, a, C 39, _, _, _, _, rfl, s0 _ _ a1, fun dx e => ⟨_, s0 _ _ (a2 dx e)⟩, T.ex 39 hi, .own _, T.kit 39 39 hi (by decide), _, rfl, iteY rfl ?_⟩
      refine ⟨_, rfl, .inl ⟨rfl, _, .inl (.inl hl)⟩, _, rfl, a, C 39, dx, _, v, rfl, s0 _ _ a1, s0 _ _ a4, T.xf hi, T.nof 39 (by decide) hi, rfl, l, _, _, rfl, rfl, hl, by decide, ?_⟩
      have s1 := same_put (o := .lst [v]) s0 nl
      refine ⟨_, rfl, a, C 39, _, _, _, _, rfl, (s1) _ _ a1, fun dx e => ⟨_, (s1) _ _ (a2 dx e)⟩, T.ex 39 hi, .own _, T.kit 39 40 hi (by decide), _, rfl, iteN (by decide) ?_⟩
      refine ⟨_, rfl, a, C 39, _, _, _, _, rfl, (s1) _ _ a1, fun dx e => ⟨_, (s1) _ _ (a2 dx e)⟩, T.ex 39 hi, .own _, T.kit 39 41 hi (by decide), _, rfl, iteN (by decide) ?_⟩
      refine ⟨_, rfl, a, C 39, _, _, _, _, rfl, (s1) _ _ a1, fun dx e => ⟨_, (s1) _ _ (a2 dx e)⟩, T.ex 39 hi, .own _, T.kit 39 42 hi (by decide), _, rfl, iteN (by decide) ?_⟩
      exact ⟨_, rfl, q l _ s1 nl (fun z => absurd z (by decide)) (fun _ => upd_same)⟩
    · subst h
      obtain ⟨dx, rfl⟩ := a3 (by decide)
      have a4 := a2 dx rfl
      refine ⟨_, rfl, a, C 40, _, _, _, _, rfl, (s0) _ _ a1, fun dx e => ⟨_, (s0) _ _ (a2 dx e)⟩, T.ex 40 hi, .own _, T.kit 40 31 hi (by decide), _, rfl, iteN (by decide) ?_⟩
      refine ⟨_, rfl, a, C 40, _, _, _, _, rfl, (s0) _ _ a1, fun dx e => ⟨_, (s0) _ _ (a2 dx e)⟩, T.ex 40 hi, .own _, T.kit 40 32 hi (by decide), _, rfl, iteN (by decide) ?_⟩
      refine ⟨_, rfl, a, C 40, _, _, _, _, rfl, (s0) _ _ a1, fun dx e => ⟨_, (s0) _ _ (a2 dx e)⟩, T.ex 40 hi, .own _, T.kit 40 33 hi (by decide), _, rfl, iteN (by decide) ?_⟩
      refine ⟨_, rfl, a, C 40, _, _, _, _, rfl, (s0) _ _ a1, fun dx e => ⟨_, (s0) _ _ (a2 dx e)⟩, T.ex 40 hi, .own _, T.kit 40 34 hi (by decide), _, rfl, iteN (by decide) ?_⟩
      refine ⟨_, rfl, a, C 40, _, _, _, _, rfl, (s0) _ _ a1, fun dx e => ⟨_, (s0) _ _ (a2 dx e)⟩, T.ex 40 hi, .own _, T.kit 40 35 hi (by decide), _, rfl, iteN (by decide) ?_⟩
      refine ⟨_, rfl, a, C 40, _, _, _, _, rfl, (s0) _ _ a1, fun dx e => ⟨_, (s0) _ _ (a2 dx e)⟩, T.ex 40 hi, .own _, T.kit 40 36 hi (by decide), _, rfl, iteN (by decide) ?_⟩
      refine ⟨_, rfl, a, C 40, _, _, _, _, rfl, (s0) _ _ a1, fun dx e => ⟨_, (s0) _ _ (a2 dx e)⟩, T.ex 40 hi, .own _, T.kit 40 37 hi (by decide), _, rfl, iteN (by decide) ?_⟩
      refine ⟨_, rfl, a, C 40, _, _, _, _, rfl, (s0) _ _ a1, fun dx e => ⟨_, (s0) _ _ (a2 dx e)⟩, T.ex 40 hi, .own _, T.kit 40 38 hi (by decide), _, rfl, iteN (by decide) ?_⟩
      refine ⟨_, rfl, a, C 40, _, _, _, _, rfl, (s0) _ _ a1, fun dx e => ⟨_, (s0) _ _ (a2 dx e)⟩, T.ex 40 hi, .own _, T.kit 40 39 hi (by decide), _, rfl, iteN (by decide) ?_⟩
      refine ⟨_, rfl, a, C 40, _, _, _, _, rfl, s0 _ _ a1, fun dx e => ⟨_, s0 _ _ (a2 dx e)⟩, T.ex 40 hi, .own _, T.kit 40 40 hi (by decide), _, rfl, iteY rfl ?_⟩
      refine ⟨_, rfl, .inl ⟨rfl, _, .inl (.inl hl)⟩, _, rfl, a, C 40, dx, _, v, rfl, s0 _ _ a1, s0 _ _ a4, T.xf hi, T.nof 40 (by decide) hi, rfl, l, _, _, rfl, rfl, hl, by decide, ?_⟩
      have s1 := same_put (o := .lst [v]) s0 nl
      refine ⟨_, rfl, a, C 40, _, _, _, _, rfl, (s1) _ _ a1, fun dx e => ⟨_, (s1) _ _ (a2 dx e)⟩, T.ex 40 hi, .own _, T.kit 40 41 hi (by decide), _, rfl, iteN (by decide) ?_⟩
      refine ⟨_, rfl, a, C 40, _, _, _, _, rfl, (s1) _ _ a1, fun dx e => ⟨_, (s1) _ _ (a2 dx e)⟩, T.ex 40 hi, .own _, T.kit 40 42 hi (by decide), _, rfl, iteN (by decide) ?_⟩
      exact ⟨_, rfl, q l _ s1 nl (fun z => absurd z (by decide)) (fun _ => upd_same)⟩
    · subst h
      obtain ⟨dx, rfl⟩ := a3 (by decide)
      have a4 := a2 dx rfl
      refine ⟨_, rfl, a, C 41, _, _, _, _, rfl, (s0) _ _ a1, fun dx e => ⟨_, (s0) _ _ (a2 dx e)⟩, T.ex 41 hi, .own _, T.kit 41 31 hi (by decide), _, rfl, iteN (by decide) ?_⟩
      refine ⟨_, rfl, a, C 41, _, _, _, _, rfl, (s0) _ _ a1, fun dx e => ⟨_, (s0) _ _ (a2 dx e)⟩, T.ex 41 hi, .own _, T.kit 41 32 hi (by decide), _, rfl, iteN (by decide) ?_⟩
      refine ⟨_, rfl, a, C 41, _, _, _, _, rfl, (s0) _ _ a1, fun dx e => ⟨_, (s0) _ _ (a2 dx e)⟩, T.ex 41 hi, .own _, T.kit 41 33 hi (by decide), _, rfl, iteN (by decide) ?_⟩
      refine ⟨_, rfl, a, C 41, _, _, _, _, rfl, (s0) _ _ a1, fun dx e => ⟨_, (s0) _ _ (a2 dx e)⟩, T.ex 41 hi, .own _, T.kit 41 34 hi (by decide), _, rfl, iteN (by decide) ?_⟩
      refine ⟨_, rfl, a, C 41, _, _, _, _, rfl, (s0) _ _ a1, fun dx e => ⟨_, (s0) _ _ (a2 dx e)⟩, T.ex 41 hi, .own _, T.kit 41 35 hi (by decide), _, rfl, iteN (by decide) ?_⟩
      refine ⟨_, rfl, a, C 41, _, _, _, _, rfl, (s0) _ _ a1, fun dx e => ⟨_, (s0) _ _ (a2 dx e)⟩, T.ex 41 hi, .own _, T.kit 41 36 hi (by decide), _, rfl, iteN (by decide) ?_⟩
      refine ⟨_, rfl, a, C 41, _, _, _, _, rfl, (s0) _ _ a1, fun dx e => ⟨_, (s0) _ _ (a2 dx e)⟩, T.ex 41 hi, .own _, T.kit 41 37 hi (by decide), _, rfl, iteN (by decide) ?_⟩
      refine ⟨_, rfl, a, C 41, _, _, _, _, rfl, (s0) _ _ a1, fun dx e => ⟨_, (s0) _ _ (a2 dx e)⟩, T.ex 41 hi, .own _, T.kit 41 38 hi (by decide), _, rfl, iteN (by decide) ?_⟩
      refine ⟨_, rfl, a, C 41, _, _, _, _, rfl, (s0) _ _ a1, fun dx e => ⟨_, (s0) _ _ (a2 dx e)⟩, T.ex 41 hi, .own _, T.kit 41 39 hi (by decide), _, rfl, iteN (by decide) ?_⟩
      refine ⟨_, rfl, a, C 41, _, _, _, _, rfl, (s0) _ _ a1, fun dx e => ⟨_, (s0) _ _ (a2 dx e)⟩, T.ex 41 hi, .own _, T.kit 41 40 hi (by decide), _, rfl, iteN (by decide) ?_⟩
      refine ⟨_, rfl, a, C 41, _, _, _, _, rfl, s0 _ _ a1, fun dx e => ⟨_, s0 _ _ (a2 dx e)⟩, T.ex 41 hi, .own _, T.kit 41 41 hi (by decide), _, rfl, iteY rfl ?_⟩
      refine ⟨_, rfl, .inl ⟨rfl, _, .inl (.inl hl)⟩, _, rfl, a, C 41, dx, _, v, rfl, s0 _ _ a1, s0 _ _ a4, T.xf hi, T.nof 41 (by decide) hi, rfl, l, _, _, rfl, rfl, hl, by decide, ?_⟩
      have s1 := same_put (o := .lst [v]) s0 nl
      refine ⟨_, rfl, a, C 41, _, _, _, _, rfl, (s1) _ _ a1, fun dx e => ⟨_, (s1) _ _ (a2 dx e)⟩, T.ex 41 hi, .own _, T.kit 41 42 hi (by decide), _, rfl, iteN (by decide) ?_⟩
      exact ⟨_, rfl, q l _ s1 nl (fun z => absurd z (by decide)) (fun _ => upd_same)⟩
    · subst h
      obtain ⟨dx, rfl⟩ := a3 (by decide)
      have a4 := a2 dx rfl
      refine ⟨_, rfl, a, C 42, _, _, _, _, rfl, (s0) _ _ a1, fun dx e => ⟨_, (s0) _ _ (a2 dx e)⟩, T.ex 42 hi, .own _, T.kit 42 31 hi (by decide), _, rfl, iteN (by decide) ?_⟩
      refine ⟨_, rfl, a, C 42, _, _, _, _, rfl, (s0) _ _ a1, fun dx e => ⟨_, (s0) _ _ (a2 dx e)⟩, T.ex 42 hi, .own _, T.kit 42 32 hi (by decide), _, rfl, iteN (by decide) ?_⟩
      refine ⟨_, rfl, a, C 42, _, _, _, _, rfl, (s0) _ _ a1, fun dx e => ⟨_, (s0) _ _ (a2 dx e)⟩, T.ex 42 hi, .own _, T.kit 42 33 hi (by decide), _, rfl, iteN (by decide) ?_⟩
      refine ⟨_, rfl, a, C 42, _, _, _, _, rfl, (s0) _ _ a1, fun dx e => ⟨_, (s0) _ _ (a2 dx e)⟩, T.ex 42 hi, .own _, T.kit 42 34 hi (by decide), _, rfl, iteN (by decide) ?_⟩
      refine ⟨_, rfl, a, C 42, _, _, _, _, rfl, (s0) _ _ a1, fun dx e => ⟨_, (s0) _ _ (a2 dx e)⟩, T.ex 42 hi, .own _, T.kit 42 35 hi (by decide), _, rfl, iteN (by decide) ?_⟩
      refine ⟨_, rfl, a, C 42, _, _, _, _, rfl, (s0) _ _ a1, fun dx e => ⟨_, (s0) _ _ (a2 dx e)⟩, T.ex 42 hi, .own _, T.kit 42 36 hi (by decide), _, rfl, iteN (by decide) ?_⟩
      refine ⟨_, rfl, a, C 42, _, _, _, _, rfl, (s0) _ _ a1, fun dx e => ⟨_, (s0) _ _ (a2 dx e)⟩, T.ex 42 hi, .own _, T.kit 42 37 hi (by decide), _, rfl, iteN (by decide) ?_⟩
      refine ⟨_, rfl, a, C 42, _, _, _, _, rfl, (s0) _ _ a1, fun dx e => ⟨_, (s0) _ _ (a2 dx e)⟩, T.ex 42 hi, .own _, T.kit 42 38 hi (by decide), _, rfl, iteN (by decide) ?_⟩
      refine ⟨_, rfl, a, C 42, _, _, _, _, rfl, (s0) _ _ a1, fun dx e => ⟨_, (s0) _ _ (a2 dx e)⟩, T.ex 42 hi, .own _, T.kit 42 39 hi (by decide), _, rfl, iteN (by decide) ?_⟩
      refine ⟨_, rfl, a, C 42, _, _, _, _, rfl, (s0) _ _ a1, fun dx e => ⟨_, (s0) _ _ (a2 dx e)⟩, T.ex 42 hi, .own _, T.kit 42 40 hi (by decide), _, rfl, iteN (by decide) ?_⟩
      refine ⟨_, rfl, a, C 42, _, _, _, _, rfl, (s0) _ _ a1, fun dx e => ⟨_, (s0) _ _ (a2 dx e)⟩, T.ex 42 hi, .own _, T.kit 42 41 hi (by decide), _, rfl, iteN (by decide) ?_⟩
      refine ⟨_, rfl, a, C 42, _, _, _, _, rfl, s0 _ _ a1, fun dx e => ⟨_, s0 _ _ (a2 dx e)⟩, T.ex 42 hi, .own _, T.kit 42 42 hi (by decide), _, rfl, iteY rfl ?_⟩
      refine ⟨_, rfl, .inl ⟨rfl, _, .inl (.inl hl)⟩, _, rfl, a, C 42, dx, _, v, rfl, s0 _ _ a1, s0 _ _ a4, T.xf hi, T.nof 42 (by decide) hi, rfl, l, _, _, rfl, rfl, hl, by decide, ?_⟩
      have s1 := same_put (o := .lst [v]) s0 nl
      exact ⟨_, rfl, q l _ s1 nl (fun z => absurd z (by decide)) (fun _ => upd_same)⟩
end
end Rip
set_option Elab.async false
set_option linter.all false
set_option maxRecDepth 100000
set_option maxHeartbeats 2000000
/-! Things of the menu: trees; the deep one; a thing is the same as itself. -/
namespace Rip
open PySem PySem.Spec PyProof.Rows L2
def scV : V → Bool
  | .non => true | .bl _ => true | .int _ => true | .str _ => true
  | _ => false
/-- a thing of the menu, at most n deep, apart from the bag at b and its list at g -/
inductive Tr (b g : Addr) (H : Hp) : Nat → V → Prop
  | sc {n : Nat} {v : V} (h : scV v = true) : Tr b g H n v
  | dct {n : Nat} {a : Addr} (h : H a = some (.dK [(.inl 2, .int 3)])) (h1 : a ≠ b) (h2 : a ≠ g) : Tr b g H n (.ref a)
  | tup {n : Nat} {a : Addr} {xs : List V} (h : H a = some (.tup xs)) (h1 : a ≠ b) (h2 : a ≠ g) (hl : xs.length ≤ 900) (hx : ∀ x ∈ xs, Tr b g H n x) : Tr b g H (n + 1) (.ref a)
  | lst {n : Nat} {a : Addr} {xs : List V} (h : H a = some (.lst xs)) (h1 : a ≠ b) (h2 : a ≠ g) (hl : xs.length ≤ 900) (hx : ∀ x ∈ xs, Tr b g H n x) : Tr b g H (n + 1) (.ref a)
theorem Tr.same {b g : Addr} {H H' : Hp} {n : Nat} {v : V} (t : Tr b g H n v) (s : SameB b g H H') : Tr b g H' n v := by
  induction t with
  | sc h => exact .sc h
  | dct h h1 h2 => exact .dct (s _ _ h h1 h2) h1 h2
  | tup h h1 h2 hl _ ih => exact .tup (s _ _ h h1 h2) h1 h2 hl ih
  | lst h h1 h2 hl _ ih => exact .lst (s _ _ h h1 h2) h1 h2 hl ih
theorem Tr.up {b g : Addr} {H : Hp} {n : Nat} {v : V} (t : Tr b g H n v) : ∀ {m : Nat}, n ≤ m → Tr b g H m v := by
  induction t with
  | sc h => exact fun _ => .sc h
  | dct h h1 h2 => exact fun _ => .dct h h1 h2
  | @tup n a xs h h1 h2 hl _ ih =>
    intro m hm
    obtain ⟨m, rfl⟩ : ∃ k, m = k + 1 := ⟨m - 1, by omega⟩
    exact .tup h h1 h2 hl fun x hx => ih x hx (by omega)
  | @lst n a xs h h1 h2 hl _ ih =>
    intro m hm
    obtain ⟨m, rfl⟩ : ∃ k, m = k + 1 := ⟨m - 1, by omega⟩
    exact .lst h h1 h2 hl fun x hx => ih x hx (by omega)
theorem op_or {X : Cx} {f : Value → Value → Sem Value} {r1 r2 : R2} (h1 : OpR X f r1) (h2 : OpR X f r2) : OpR X f (fun x y H Q => r1 x y H Q ∨ r2 x y H Q) :=
  fun pins s σ H x y v u Q I rx ry h => h.elim (h1 pins s σ H x y v u Q I rx ry) (h2 pins s σ H x y v u Q I rx ry)
theorem walk_zipB {K : PySem.W.Frag} {a : Addr} {xs : List V} : Walk (Itz K a a) xs.length (fun H => SqL K H a xs) (YPair (fun i => xs[i]?) (fun i => xs[i]?)) :=
  (walk_zip (K := K) (a := a) (b := a) (xs := xs) (ys := xs) (by omega)).mono (fun H h => ⟨h, h⟩) fun _ _ _ _ _ _ y => y
theorem walk_zipC {K : PySem.W.Frag} {a : Addr} {xs : List V} : Walk (RZ.ItzT K a a) xs.length (fun H => SqT K H a xs) (YPair (fun i => xs[i]?) (fun i => xs[i]?)) := by
  refine ⟨fun i _ hi q => ⟨xs, xs, xs[i], xs[i], q, q, by simp [hi], by simp [hi]⟩, fun _ q => ⟨xs, xs, q, q, .inl (Nat.le_refl _)⟩, fun i H v H' _ q y => ?_⟩
  obtain ⟨T, x, y, h1, h2, h3, h4, h5⟩ := y
  exact ⟨T, x, y, h1, h2, h3, h4 xs q, h5 xs q⟩
theorem kit_two {K : PySem.W.Frag} {t : String} {r1 r2 : Bool} (h1 : kitB t "tuple" = some r1) (h2 : kitB t "list" = some r2) : PySem.W.kitAny K (.type t) [.type "tuple", .type "list"] = some (r1 || r2) := by
  refine kitAny_cons (kit_ty h1) (fun e => ?_) fun e => by rw [e]; rfl
  subst e
  refine kitAny_cons (kit_ty h2) (fun e => ?_) fun e => by rw [e]; rfl
  subst e
  exact kitAny_nil
theorem all_true (n : Nat) : (List.replicate n true).all id = true := by simp
section
variable {P : Program} {w : World} {K : PySem.W.Frag} {mg : Str → Option Value} {base : Heap}
def spDeep : Sp := fun vs H Q _ => ∃ (b g : Addr) (ob og : HO), vs = [] ∧ H b = some ob ∧ H g = some og ∧ ∀ (v : V) (H' : Hp), Same H H' → Tr b g H' 23 v → Q v H'
abbrev scDN : List Str := ["_law_thing", "_law_turn"]
theorem scD : FnScope scDN [] (defScope sDeep) := ⟨rfl, rfl, rfl, by decide +kernel, rfl, by decide +kernel, by decide +kernel⟩
theorem ok_deep {f : Addr} {fd : FuncData} (F : Fun K "_law_deep" "_law_deep" sDeep f fd) (B : Blt mg) : FnOk P w K mg base CX0 1 f fd [] spDeep := by
  refine F.ok scD (fun vs H Q E h => ?_) (fun cdv A outer s H vs Q E hr h => ?_)
  · obtain ⟨b, g, ob, og, rfl, _⟩ := h
    rfl
  · obtain ⟨b, g, ob, og, rfl, hb, hg, q⟩ := h
    refine ⟨_,
      (pss_cons (ps_set (i := 0) scD.nd rfl (.inl rfl) (pe_tup pa_nil))
      (pss_cons (ps_for PassesOwn.never rfl (pi_range1 rfl B.range (pa_cons pe_int pa_nil)) (pg_name (i := 1) scD.nd rfl (.inl rfl))
        (pss_one (ps_set (i := 0) scD.nd rfl (.inl rfl) (pe_lst (pa_cons (pe_tup (pa_cons (pv 0) pa_nil)) pa_nil)))))
      (pss_one (ps_ret (pv 0))))), ?_⟩
    refine ⟨Nat.zero_le _, fun t nt => ?_⟩
    have one : 1 ≤ sizeLine := by rw [sizeLine_eq]; decide
    refine ⟨11, rfl, by decide, by decide, for_range (n := 11) (fun i σ H2 => ∃ (v : V) (z : Option V), σ = [some v, z] ∧ Same H H2 ∧ Tr b g H2 (2 * i + 1) v)
      ⟨.ref t, none, rfl, same_upd nt, .tup (n := 0) upd_same (ne_of_none hb nt).symm (ne_of_none hg nt).symm (Nat.zero_le _) (fun x hx => nomatch hx)⟩ ?_ ?_⟩
    · rintro i σ H2 hi ⟨v, z, rfl, s2, tv⟩
      refine ⟨_, rfl, one, fun p np => ⟨one, fun l nl => ?_⟩⟩
      have np0 : H p = none := s2.free np
      have nl0 : H l = none := (same_put s2 np0).free nl
      have s3 : Same H2 (upd (upd H2 p (.tup [v])) l (.lst [.ref p])) := (same_upd np).trans (same_upd nl)
      refine ⟨_, _, rfl, s2.trans s3, ?_⟩
      have npl : p ≠ l := fun e => by
        rw [← e, upd_same] at nl
        cases nl
      have t1 : Tr b g (upd (upd H2 p (.tup [v])) l (.lst [.ref p])) (2 * i + 1 + 1) (.ref p) :=
        .tup (by rw [upd_ne npl, upd_same]) (ne_of_none hb np0).symm (ne_of_none hg np0).symm (Nat.le_of_ble_eq_true rfl) fun x hx => by
          rw [List.mem_singleton.mp hx]
          exact tv.same (SameB.of s3)
      exact .lst (n := 2 * i + 1 + 1) upd_same (ne_of_none hb nl0).symm (ne_of_none hg nl0).symm (Nat.le_of_ble_eq_true rfl) fun x hx => by
        rw [List.mem_singleton.mp hx]
        exact t1
    · rintro σ H2 ⟨v, z, rfl, s2, tv⟩
      exact ⟨_, rfl, q v H2 s2 tv⟩
/-! ### a thing is itself -/
def spIs (n : Nat) : Sp := fun vs H Q _ => ∃ (b g : Addr) (v : V) (m : Nat), m < n ∧ vs = [v, v] ∧ Tr b g H m v ∧ ∀ H', Same H H' → Q (.bl true) H'
abbrev scIN : List Str := ["_law_thing", "_law_due", "_law_one", "_law_other"]
theorem scI : FnScope scIN ["_law_thing", "_law_due"] (defScope sIs) := ⟨rfl, rfl, rfl, by decide +kernel, rfl, by decide +kernel, by decide +kernel⟩
theorem is_step {f : Addr} {fd : FuncData} {n : Nat} (F : Fun K "_law_is" "_law_is" sIs f fd) (B : Blt mg) (b0 : Binds K fd ["_law_thing", "_law_due"] []) (g0 : mg "_law_is" = some (.ref f)) (G : FnOk P w K mg base CX0 n f fd ["_law_thing", "_law_due"] (spIs n)) :
    FnOk P w K mg base CX0 (n + 1) f fd ["_law_thing", "_law_due"] (spIs (n + 1)) := by
  refine F.ok scI (fun vs H Q E h => ?_) (fun cdv A outer s H vs Q E hr h => ?_)
  · obtain ⟨b, g, v, m, _, rfl, _⟩ := h
    rfl
  · obtain ⟨b, g, v, m, hm, rfl, tv, q⟩ := h
    have hu := hu_of hr
    refine ⟨_,
      (pss_cons (ps_if (pt_val (pe_callB call_isiT (by rfl) B.isinstance PyProof.Rows.boot_isinstance (pa_cons (pv 1) (pa_cons (pe_tup (pa_cons (pe_bltn (v := .ty "tuple") (by rfl) B.tuple PyProof.Rows.boot_tuple rfl) (pa_cons (pe_bltn (v := .ty "list") (by rfl) B.list PyProof.Rows.boot_list rfl) pa_nil))) pa_nil))))
        (pss_cons (ps_if (pw_or (pt_cmpR op_ne (pe_callB call_isi (by rfl) B.isinstance PyProof.Rows.boot_isinstance (pa_cons (pv 0) (pa_cons (pe_bltn (v := .ty "tuple") (by rfl) B.tuple PyProof.Rows.boot_tuple rfl) pa_nil))) (pe_callB call_isi (by rfl) B.isinstance PyProof.Rows.boot_isinstance (pa_cons (pv 1) (pa_cons (pe_bltn (v := .ty "tuple") (by rfl) B.tuple PyProof.Rows.boot_tuple rfl) pa_nil))) (nomark _)) (pw_or1 (pt_cmpR op_ne (pe_callB call_isi (by rfl) B.isinstance PyProof.Rows.boot_isinstance (pa_cons (pv 0) (pa_cons (pe_bltn (v := .ty "list") (by rfl) B.list PyProof.Rows.boot_list rfl) pa_nil))) (pe_callB call_isi (by rfl) B.isinstance PyProof.Rows.boot_isinstance (pa_cons (pv 1) (pa_cons (pe_bltn (v := .ty "list") (by rfl) B.list PyProof.Rows.boot_list rfl) pa_nil))) (nomark _)))).pt
          (pss_one (ps_ret pe_bl)) pss_nil)
        (pss_one (ps_ret (pe_and (pe_cmpR op_eq (pe_callB call_len_seq (by rfl) B.len PySem.boot_len (pa_cons (pv 0) pa_nil)) (pe_callB call_len_seq (by rfl) B.len PySem.boot_len (pa_cons (pv 1) pa_nil)) (nomark _))
          (pe_one (pe_callB (cr_all rfl) (by rfl) B.all PyProof.Rows.boot_all (pa_cons (pe_lc (own := [("_law_one", 2), ("_law_other", 3)]) (g := gTup K 2 (gCons (gName 2) (gCons (gName 3) gNil))) (tt := tYes) rfl scI.nd (RZ.pi_zipA (by rfl) B.zip (pa_cons (pv 0) (pa_cons (pv 1) pa_nil))) (blkOk_by (own := [("_law_one", 2), ("_law_other", 3)]) (N := scIN) (sc := defScope sIs) (by decide +kernel))
            (fun _ _ _ _ _ => (pg_tup rfl (pgs_cons (pg_name (i := 2) scI.nd rfl (.inl rfl)) (pgs_cons (pg_name (i := 3) scI.nd rfl (.inl rfl)) pgs_nil)))) (fun _ _ _ _ _ => pts_nil)
            (fun _ _ _ _ _ => (pe_call G hr (by rfl) g0 F.kp b0 .nil pass0 (pa_cons (pv 2) (pa_cons (pv 3) pa_nil))))) pa_nil))))))) pss_nil)
      (pss_one (ps_ret (pe_and (pe_cmpR op_eq (pe_callB call_isi (by rfl) B.isinstance PyProof.Rows.boot_isinstance (pa_cons (pv 0) (pa_cons (pe_bltn (v := .ty "bool") (by rfl) B.bool PyProof.Rows.boot_bool rfl) pa_nil))) (pe_callB call_isi (by rfl) B.isinstance PyProof.Rows.boot_isinstance (pa_cons (pv 1) (pa_cons (pe_bltn (v := .ty "bool") (by rfl) B.bool PyProof.Rows.boot_bool rfl) pa_nil))) (nomark _))
        (pe_one (pe_cmpR (op_or op_eq (op_eq_dict (Nat.lt_of_succ_lt hu))) (pv 0) (pv 1) (nomark _))))))), ?_⟩
    have two : 2 ≤ sizeLine := by rw [sizeLine_eq]; decide
    refine ⟨v, rfl, two, fun tp ntp => ?_⟩
    have s1 : Same H (upd H tp (.tup [.ty "tuple", .ty "list"])) := same_upd ntp
    have tv1 := tv.same (SameB.of s1)
    generalize hH1 : upd H tp (.tup [.ty "tuple", .ty "list"]) = H1 at s1 tv1
    have eT : H1 tp = some (.tup [.ty "tuple", .ty "list"]) := by rw [← hH1]; exact upd_same
    have two : Paired ClsV [V.ty "tuple", V.ty "list"] [.type "tuple", .type "list"] := .cons (.ty _) (.cons (.ty _) .nil)
    have hv : (∃ (t : String) (bb : Bool), TyX K H1 v (.type t) ∧ kitB t "tuple" = some false ∧ kitB t "list" = some false ∧ kitB t "bool" = some bb ∧ ((scal v v = true ∧ True) ∨ ∃ a, v = .ref a ∧ H1 a = some (.dK [(.inl 2, .int 3)]))) ∨
        (∃ a xs, v = .ref a ∧ H1 a = some (.tup xs) ∧ xs.length ≤ 900 ∧ ∃ m', m' < n ∧ ∀ x ∈ xs, Tr b g H1 m' x) ∨
        (∃ a xs, v = .ref a ∧ H1 a = some (.lst xs) ∧ xs.length ≤ 900 ∧ ∃ m', m' < n ∧ ∀ x ∈ xs, Tr b g H1 m' x) := by
      cases tv1 with
      | sc h =>
        cases v with
        | non => exact .inl ⟨"NoneType", false, .base .non, by decide +kernel, by decide +kernel, by decide +kernel, .inl ⟨rfl, trivial⟩⟩
        | bl x => exact .inl ⟨"bool", true, .base (.bl x), by decide +kernel, by decide +kernel, by decide +kernel, .inl ⟨rfl, trivial⟩⟩
        | int x => exact .inl ⟨"int", false, .base (.int x), by decide +kernel, by decide +kernel, by decide +kernel, .inl ⟨rfl, trivial⟩⟩
        | str x => exact .inl ⟨"str", false, .base (.str x), by decide +kernel, by decide +kernel, by decide +kernel, .inl ⟨rfl, trivial⟩⟩
        | byt x => cases h
        | flt x => cases h
        | ref x => cases h
        | ty x => cases h
      | dct h h1 h2 => exact .inl ⟨"dict", false, .base (.dK h), by decide +kernel, by decide +kernel, by decide +kernel, .inr ⟨_, rfl, h⟩⟩
      | @tup m' a xs h h1 h2 hl hx => exact .inr (.inl ⟨a, xs, rfl, h, hl, m', by omega, hx⟩)
      | @lst m' a xs h h1 h2 hl hx => exact .inr (.inr ⟨a, xs, rfl, h, hl, m', by omega, hx⟩)
    rcases hv with ⟨t, bb, ty, k1, k2, k3, he⟩ | ⟨a, xs, rfl, h, hl, m', hm', hx⟩ | ⟨a, xs, rfl, h, hl, m', hm', hx⟩
    · refine ⟨v, tp, _, .type t, _, false, rfl, eT, two, ty, kit_two k1 k2, _, rfl, iteF ?_⟩
      refine ⟨_, rfl, v, _, _, _, _, rfl, .ty "bool", ty, kit_ty k3, _, rfl, v, _, _, _, _, rfl, .ty "bool", ty, kit_ty k3, (by cases bb <;> rfl), _, rfl, iteY rfl ?_⟩
      refine ⟨_, rfl, _, rfl, ?_⟩
      rcases he with ⟨he, _⟩ | ⟨a, rfl, he⟩
      · exact .inl ⟨he, by rw [decide_eq_true rfl]; exact q H1 s1⟩
      · exact .inr ⟨a, a, _, rfl, rfl, he, he, by decide, by decide, q H1 s1⟩
    · have k1 : kitB "tuple" "tuple" = some true := by decide +kernel
      have k2 : kitB "tuple" "list" = some false := by decide +kernel
      have ty : TyX K H1 (.ref a) (.type "tuple") := .base (.tup h)
      refine ⟨_, tp, _, .type "tuple", _, true, rfl, eT, two, ty, kit_two k1 k2, _, rfl, iteT ?_⟩
      refine ⟨_, rfl, _, _, _, _, _, rfl, .ty "tuple", ty, kit_ty k1, _, rfl, _, _, _, _, _, rfl, .ty "tuple", ty, kit_ty k1, rfl, _, rfl, iteNS rfl ?_⟩
      refine ⟨_, rfl, _, _, _, _, _, rfl, .ty "list", ty, kit_ty k2, _, rfl, _, _, _, _, _, rfl, .ty "list", ty, kit_ty k2, rfl, _, rfl, iteNS rfl ?_⟩
      refine ⟨_, rfl, a, xs, rfl, .inr (.inl (.inl h)), _, rfl, a, xs, rfl, .inr (.inl (.inl h)), rfl, _, rfl, iteY rfl ?_⟩
      refine ⟨_, rfl, _, rfl, a, a, xs, xs, rfl, .inr ⟨.inl (.inl h), .inl (.inl h), fun D nD => ?_⟩⟩
      refine lc_it walk_zipC (fun i H3 => Same H1 H3 ∧ H3 D = some (.lst ((List.replicate i true).map V.bl))) ⟨same_upd nD, upd_same⟩ (fun i H3 _ z => .inl (.inl (z.1 _ _ h))) ?_ ?_
      · rintro i x H3 H' hi ⟨s3, e3⟩ ⟨T, x1, x2, rfl, nT, rfl, e1, e2⟩
        have ex : x1 = x2 := Option.some.inj (e1.symm.trans e2)
        subst ex
        have sT : Same H3 (upd H3 T (.tup [x1, x1])) := same_upd nT
        refine ⟨T, [x1, x1], rfl, .inl (.inl upd_same), rfl, x1, [x1], rfl, x1, [], rfl, rfl, rfl, ?_⟩
        refine ⟨_, rfl, _, rfl, b, g, x1, m', hm', rfl, (hx x1 (at_mem e1)).same (SameB.of (s3.trans sT)), fun H4 s4 => ?_⟩
        refine ⟨_, s4 _ _ (sT _ _ e3), (by rw [List.length_map, List.length_replicate]; exact small1000 (by omega)), same_put ((s3.trans sT).trans s4) nD, ?_⟩
        rw [upd_same, List.replicate_succ', List.map_append]
        rfl
      · rintro H3 ⟨s3, e3⟩
        exact ⟨D, _, rfl, .inl (.inl e3), by rw [all_true]; exact q H3 (s1.trans s3)⟩
    · have k1 : kitB "list" "tuple" = some false := by decide +kernel
      have k2 : kitB "list" "list" = some true := by decide +kernel
      have ty : TyX K H1 (.ref a) (.type "list") := .base (.lst h)
      refine ⟨_, tp, _, .type "list", _, true, rfl, eT, two, ty, kit_two k1 k2, _, rfl, iteT ?_⟩
      refine ⟨_, rfl, _, _, _, _, _, rfl, .ty "tuple", ty, kit_ty k1, _, rfl, _, _, _, _, _, rfl, .ty "tuple", ty, kit_ty k1, rfl, _, rfl, iteNS rfl ?_⟩
      refine ⟨_, rfl, _, _, _, _, _, rfl, .ty "list", ty, kit_ty k2, _, rfl, _, _, _, _, _, rfl, .ty "list", ty, kit_ty k2, rfl, _, rfl, iteNS rfl ?_⟩
      refine ⟨_, rfl, a, xs, rfl, .inl (.inl (.inl h)), _, rfl, a, xs, rfl, .inl (.inl (.inl h)), rfl, _, rfl, iteY rfl ?_⟩
      refine ⟨_, rfl, _, rfl, a, a, xs, xs, rfl, .inl ⟨.inl (.inl h), .inl (.inl h), fun D nD => ?_⟩⟩
      refine lc_it walk_zipB (fun i H3 => Same H1 H3 ∧ H3 D = some (.lst ((List.replicate i true).map V.bl))) ⟨same_upd nD, upd_same⟩ (fun i H3 _ z => .inl (.inl (z.1 _ _ h))) ?_ ?_
      · rintro i x H3 H' hi ⟨s3, e3⟩ ⟨T, x1, x2, rfl, nT, rfl, e1, e2⟩
        have ex : x1 = x2 := Option.some.inj (e1.symm.trans e2)
        subst ex
        have sT : Same H3 (upd H3 T (.tup [x1, x1])) := same_upd nT
        refine ⟨T, [x1, x1], rfl, .inl (.inl upd_same), rfl, x1, [x1], rfl, x1, [], rfl, rfl, rfl, ?_⟩
        refine ⟨_, rfl, _, rfl, b, g, x1, m', hm', rfl, (hx x1 (at_mem e1)).same (SameB.of (s3.trans sT)), fun H4 s4 => ?_⟩
        refine ⟨_, s4 _ _ (sT _ _ e3), (by rw [List.length_map, List.length_replicate]; exact small1000 (by omega)), same_put ((s3.trans sT).trans s4) nD, ?_⟩
        rw [upd_same, List.replicate_succ', List.map_append]
        rfl
      · rintro H3 ⟨s3, e3⟩
        exact ⟨D, _, rfl, .inl (.inl e3), by rw [all_true]; exact q H3 (s1.trans s3)⟩
theorem is_all {f : Addr} {fd : FuncData} (F : Fun K "_law_is" "_law_is" sIs f fd) (B : Blt mg) (b0 : Binds K fd ["_law_thing", "_law_due"] []) (g0 : mg "_law_is" = some (.ref f)) : ∀ n, FnOk P w K mg base CX0 n f fd ["_law_thing", "_law_due"] (spIs n)
  | 0 => ⟨fun _ _ _ _ ⟨_, _, _, _, z, _⟩ => absurd z (Nat.not_lt_zero _), fun _ _ _ _ _ _ _ _ _ _ _ _ _ ⟨_, _, _, _, z, _⟩ => absurd z (Nat.not_lt_zero _)⟩
  | n + 1 => is_step F B b0 g0 (is_all F B b0 g0 n)
end
end Rip
set_option Elab.async false
set_option linter.all false
set_option maxRecDepth 100000
set_option maxHeartbeats 4000000
/-! The law itself. -/
namespace Rip
open PySem PySem.Spec PyProof.Rows L2
section
variable {X : Cx} {C : Nat → Addr} {Wv : Addr}
/-- what the top says of the inits -/
def Inits (P : Program) (w : World) (K : PySem.W.Frag) (mg : Str → Option Value) (base : Heap) (C : Nat → Addr) : Prop := ∀ i, 31 ≤ i → i < 43 → OexC K (C i) ∧ ∃ (fI : Addr) (fd : FuncData),
  PySem.W.findIn K (.ref (C i)) "__init__" = some (some (.ref fI)) ∧ PySem.W.typeIn K (.ref fI) = some (.type "function") ∧ FnOk P w K mg base CX0 1 fI fd ["self", fl i] (spInit (C i) (fl i)) ∧ Binds K fd ["self", fl i] []
theorem pe_err0 (T : ClsT X.K X.mg C Wv) (i : Nat) (hi : i < 31) {x : Str} {p pos : Pos} (hx : x = nm i) (hg : Gl X x) (hdb : (x == ("__debug__" : Str)) = false) :
    PE X (.Call (.Name x p) [] [] pos) (fun _ H Q => ∀ a H', Same H H' → H a = none → H' a = some (exo a (C i) none) → Q (.ref a) H') := by
  have h := pe_exc0 (p := p) (pos := pos) PySem.F.excBase_ValueError (T.no i hi) (x := x) (by rw [hx]; exact T.g i (by omega)) (T.kp i (by omega)) hg hdb
  exact ⟨fun pins s σ H Q I k => h.run pins s σ H Q I fun a na => k a _ (same_upd na) na upd_same⟩
/-- kept[i - 31] -/
def tKept (i : Nat) : TE := fun σ H Q => ∃ (p : Addr) (ks : List V) (v : V), σ[4]? = some (some (.ref p)) ∧ H p = some (.lst ks) ∧ ks[i - 31]? = some v ∧ Q v H
theorem pe_kept (i k : Nat) (hk : i - 31 = k) {e : Expr} (h : PE X e (tOp (rIxL X.K) (tVar 4) (tC (.int (k : Int))))) : PE X e (tKept i) :=
  ⟨fun pins s σ H Q I ⟨p, ks, v, e4, hp, hv, q⟩ => h.run pins s σ H Q I ⟨_, e4, p, ks, _, v, rfl, rfl, .inl (.inl hp), at_of (j := k) rfl (by rw [← hk]; exact hv), q⟩⟩
theorem pe_err1 (T : ClsT X.K X.mg C Wv) (N : Inits X.prog X.w X.K X.mg X.base C) {k : Nat} (hr : Room k X.A) (hk : 2 ≤ k) (hxe : Passes CX0 X (fun _ _ _ => False)) (i : Nat) (h31 : 31 ≤ i) (hi : i < 43) {x : Str} {p pos : Pos} (hx : x = nm i) (hg : Gl X x) (hdb : (x == ("__debug__" : Str)) = false)
    {e : Expr} (he : PE X e (tKept i)) (hs : starEach (e :: []) X.env = (false, eval e X.env) :: starEach [] X.env := by rfl) (hpl : (backTo pos (starEach [] X.env)).any (·.1) = false := by rfl) :
    PE X (.Call (.Name x p) [e] [] pos) (fun σ H Q => ∃ (p : Addr) (ks : List V) (v : V), σ[4]? = some (some (.ref p)) ∧ H p = some (.lst ks) ∧ ks[i - 31]? = some v ∧ ∀ a H', Same H H' → H a = none → ErrAt C H' a i v → Q (.ref a) H') := by
  obtain ⟨O, fI, fd, iC, tI, G, b⟩ := N i h31 hi
  have h := pe_excX (p := p) (pos := pos) O iC tI G (hr.mono hk) b hxe hg (by rw [hx]; exact T.g i hi) (pa_cons he pa_nil hs) hdb hs hpl
  refine ⟨fun pins s σ H Q I ⟨q, ks, v, e4, hp, hv, k⟩ => h.run pins s σ H Q I ?_⟩
  refine ⟨q, ks, v, e4, hp, hv, Nat.le_of_ble_eq_true rfl, fun a na => ⟨a, v, rfl, upd_same, fun dx ndx ne => ⟨rfl, ?_⟩⟩⟩
  have ndx0 : H dx = none := (same_upd na).free ndx
  have s1 : Same H (upd (upd (upd H a (exo a (C i) none)) dx (exd dx [(fl i, v)])) a (exo a (C i) (some dx))) := fun c o e => by
    rw [upd_ne (ne_of_none e na), upd_ne (ne_of_none e ndx0), upd_ne (ne_of_none e na)]
    exact e
  refine k a _ s1 na ⟨some dx, upd_same, fun dy e => ?_, fun _ => ⟨dx, rfl⟩⟩
  cases e
  rw [upd_ne ne, upd_same]
/-- errors without fields, from the class i on -/
def tErr0 (C : Nat → Addr) (i n : Nat) : TA := fun _ H Q => ∀ (as : List Addr) (H' : Hp), as.length = n → Same H H' → (∀ j a, as[j]? = some a → H' a = some (exo a (C (i + j)) none)) → Q (as.map V.ref) H'
theorem err0_nil (i : Nat) : PA X [] (tErr0 C i 0) :=
  ⟨fun pos pins s σ H Q I k => pa_nil.run pos pins s σ H Q I (k [] H rfl (Same.refl H) fun j a e => by simp at e)⟩
theorem err0_cons {i n : Nat} {e : Expr} {es : List Expr} (he : PE X e (fun _ H Q => ∀ a H', Same H H' → H a = none → H' a = some (exo a (C i) none) → Q (.ref a) H')) (hr : PA X es (tErr0 C (i + 1) n))
    (hs : starEach (e :: es) X.env = (false, eval e X.env) :: starEach es X.env := by rfl) (hpl : (backTo ⟨0, 0, 0, 0⟩ (starEach es X.env)).any (·.1) = false := by rfl) : PA X (e :: es) (tErr0 C i (n + 1)) := by
  have h := pa_cons he hr hs
  refine ⟨fun pos pins s σ H Q I k => h.run pos pins s σ H Q I fun a H1 s1 na ha as H2 hl s2 hx => ?_⟩
  refine k (a :: as) H2 (by rw [List.length_cons, hl]) (s1.trans s2) fun j b e => ?_
  cases j with
  | zero =>
    cases e
    exact s2 _ _ ha
  | succ j =>
    have z := hx j b e
    rw [Nat.add_assoc, Nat.add_comm 1 j] at z
    exact z
/-- errors with fields, made of what was kept -/
def tErr1 (C : Nat → Addr) (i n : Nat) : TA := fun σ H Q => ∃ (p : Addr) (ks : List V), σ[4]? = some (some (.ref p)) ∧ H p = some (.lst ks) ∧ 31 ≤ i ∧ i - 31 + n ≤ ks.length ∧
  ∀ (as : List Addr) (H' : Hp), as.length = n → Same H H' → (∀ j a, as[j]? = some a → ErrAt C H' a (i + j) (ks.getD (i + j - 31) .non)) → Q (as.map V.ref) H'
theorem err1_nil (i : Nat) : PA X [] (tErr1 C i 0) :=
  ⟨fun pos pins s σ H Q I ⟨_, _, _, _, _, _, k⟩ => pa_nil.run pos pins s σ H Q I (k [] H rfl (Same.refl H) fun j a e => by simp at e)⟩
theorem err1_cons {i n : Nat} {e : Expr} {es : List Expr} (he : PE X e (fun σ H Q => ∃ (p : Addr) (ks : List V) (v : V), σ[4]? = some (some (.ref p)) ∧ H p = some (.lst ks) ∧ ks[i - 31]? = some v ∧ ∀ a H', Same H H' → H a = none → ErrAt C H' a i v → Q (.ref a) H')) (hr : PA X es (tErr1 C (i + 1) n))
    (hs : starEach (e :: es) X.env = (false, eval e X.env) :: starEach es X.env := by rfl) : PA X (e :: es) (tErr1 C i (n + 1)) := by
  have h := pa_cons he hr hs
  refine ⟨fun pos pins s σ H Q I ⟨p, ks, e4, hp, h31, hl, k⟩ => h.run pos pins s σ H Q I ?_⟩
  have hlt : i - 31 < ks.length := by omega
  have hk : ks[i - 31]? = some (ks.getD (i - 31) .non) := by
    rw [List.getD_eq_getElem?_getD, List.getElem?_eq_getElem hlt]
    rfl
  refine ⟨p, ks, _, e4, hp, hk, fun a H1 s1 na ha => ⟨p, ks, e4, s1 _ _ hp, by omega, by omega, fun as H2 hl2 s2 hx => ?_⟩⟩
  refine k (a :: as) H2 (by rw [List.length_cons, hl2]) (s1.trans s2) fun j b e => ?_
  cases j with
  | zero =>
    cases e
    exact ha.same s2
  | succ j =>
    have z := hx j b e
    rw [Nat.add_assoc, Nat.add_comm 1 j] at z
    exact z
end
/-- at p the list of the errors so far -/
structure Made (C : Nat → Addr) (ks : List V) (H : Hp) (p : Addr) (n : Nat) : Prop where
  ob : ∃ es : List Addr, H p = some (.lst (es.map V.ref)) ∧ es.length = n ∧ ∀ j a, es[j]? = some a → ErrAt C H a j (ks.getD (j - 31) .non)
theorem Made.same {C : Nat → Addr} {ks : List V} {H H' : Hp} {p : Addr} {n : Nat} (m : Made C ks H p n) (s : Same H H') : Made C ks H' p n := by
  obtain ⟨es, h1, h2, h3⟩ := m.ob
  exact ⟨es, s _ _ h1, h2, fun j a e => (h3 j a e).same s⟩
/-- only the errors without fields -/
structure Made0 (C : Nat → Addr) (H : Hp) (p : Addr) (n : Nat) : Prop where
  ob : ∃ es : List Addr, H p = some (.lst (es.map V.ref)) ∧ es.length = n ∧ n ≤ 31 ∧ ∀ j a, es[j]? = some a → H a = some (exo a (C j) none)
theorem Made0.same {C : Nat → Addr} {H H' : Hp} {p : Addr} {n : Nat} (m : Made0 C H p n) (s : Same H H') : Made0 C H' p n := by
  obtain ⟨es, h1, h2, h4, h3⟩ := m.ob
  exact ⟨es, s _ _ h1, h2, h4, fun j a e => s _ _ (h3 j a e)⟩
theorem Made0.made {C : Nat → Addr} {H : Hp} {p : Addr} {n : Nat} (m : Made0 C H p n) (ks : List V) : Made C ks H p n := by
  obtain ⟨es, h1, h2, h4, h3⟩ := m.ob
  refine ⟨es, h1, h2, fun j a e => ⟨none, h3 j a e, fun dx z => (nomatch z), fun z => ?_⟩⟩
  have := at_lt e
  omega
theorem at_app {α : Type} {xs ys : List α} {j : Nat} {a : α} (h : (xs ++ ys)[j]? = some a) : xs[j]? = some a ∨ (xs.length ≤ j ∧ ys[j - xs.length]? = some a) := by
  by_cases hj : j < xs.length
  · rw [List.getElem?_append_left hj] at h
    exact .inl h
  · rw [List.getElem?_append_right (by omega)] at h
    exact .inr ⟨by omega, h⟩
theorem made0_step {C : Nat → Addr} {H0 H1 : Hp} {p : Addr} {n m : Nat} {Q : V → Hp → Prop} (s : Same H0 H1) (np : H0 p = none) (M : Made0 C H1 p n) (hm : n + m ≤ 31) (as : List Addr) (H2 : Hp) (hl : as.length = m) (s2 : Same H1 H2)
    (hx : ∀ j a, as[j]? = some a → H2 a = some (exo a (C (n + j)) none)) (k : ∀ (p' : Addr) (H' : Hp), Same H0 H' → H0 p' = none → Made0 C H' p' (n + m) → Q (.ref p') H') :
    (as.map V.ref).length ≤ sizeLine ∧ ∀ l, H2 l = none → rCat (.ref p) (.ref l) (upd H2 l (.lst (as.map V.ref))) Q := by
  obtain ⟨es, h1, h2, h4, h3⟩ := (M.same s2).ob
  have z : 1000 ≤ sizeLine := by rw [sizeLine_eq]; decide
  refine ⟨by rw [List.length_map]; omega, fun l nl => ⟨p, l, _, _, rfl, rfl, by rw [upd_ne (ne_of_none h1 nl)]; exact h1, upd_same, by rw [List.length_map, List.length_map]; omega, fun p' np' => ?_⟩⟩
  have nl1 : H0 l = none := (s.trans s2).free nl
  have n1 : H0 p' = none := (same_put (s.trans s2) nl1).free np'
  refine k p' _ (same_put (same_put (s.trans s2) nl1) n1) n1 ⟨es ++ as, by rw [upd_same, List.map_append], by rw [List.length_append]; omega, hm, fun j a e => ?_⟩
  have nl2 : ∀ c o, H2 c = some o → upd (upd H2 l (.lst (as.map V.ref))) p' (.lst (es.map V.ref ++ as.map V.ref)) c = some o := fun c o e => (same_upd np') _ _ ((same_upd nl) _ _ e)
  rcases at_app e with e | ⟨e0, e⟩
  · exact nl2 _ _ (h3 j a e)
  · have z := hx _ a e
    rw [h2] at e0 z
    rw [show n + (j - n) = j by omega] at z
    exact nl2 _ _ z
theorem made_step {C : Nat → Addr} {ks : List V} {H0 H1 : Hp} {p : Addr} {n m : Nat} {Q : V → Hp → Prop} (s : Same H0 H1) (M : Made C ks H1 p n) (hm : n + m ≤ 43) (as : List Addr) (H2 : Hp) (hl : as.length = m) (s2 : Same H1 H2)
    (hx : ∀ j a, as[j]? = some a → ErrAt C H2 a (n + j) (ks.getD (n + j - 31) .non)) (k : ∀ (p' : Addr) (H' : Hp), Same H0 H' → H0 p' = none → Made C ks H' p' (n + m) → Q (.ref p') H') :
    (as.map V.ref).length ≤ sizeLine ∧ ∀ l, H2 l = none → rCat (.ref p) (.ref l) (upd H2 l (.lst (as.map V.ref))) Q := by
  obtain ⟨es, h1, h2, h3⟩ := (M.same s2).ob
  have z : 1000 ≤ sizeLine := by rw [sizeLine_eq]; decide
  refine ⟨by rw [List.length_map]; omega, fun l nl => ⟨p, l, _, _, rfl, rfl, by rw [upd_ne (ne_of_none h1 nl)]; exact h1, upd_same, by rw [List.length_map, List.length_map]; omega, fun p' np' => ?_⟩⟩
  have nl1 : H0 l = none := (s.trans s2).free nl
  have n1 : H0 p' = none := (same_put (s.trans s2) nl1).free np'
  have nl2 : Same H2 (upd (upd H2 l (.lst (as.map V.ref))) p' (.lst (es.map V.ref ++ as.map V.ref))) := (same_upd nl).trans (same_upd np')
  refine k p' _ (same_put (same_put (s.trans s2) nl1) n1) n1 ⟨es ++ as, by rw [upd_same, List.map_append], by rw [List.length_append]; omega, fun j a e => ?_⟩
  rcases at_app e with e | ⟨e0, e⟩
  · exact (h3 j a e).same nl2
  · have z := hx _ a e
    rw [h2] at e0 z
    rw [show n + (j - n) = j by omega] at z
    exact z.same nl2
theorem exo_lst {e D : Addr} {d : Option Addr} {xs : List V} : exo e D d ≠ .lst xs := fun z => by
  have y : HO.ext _ = HO.lst xs := z
  cases y
theorem Made0.sameB {C : Nat → Addr} {H H' : Hp} {p b g : Addr} {n : Nat} (M : Made0 C H p n) (B : BagAt H b g) (s : SameB b g H H') (pb : p ≠ b) (pg : p ≠ g) : Made0 C H' p n := by
  obtain ⟨es, h1, h2, h4, h3⟩ := M.ob
  obtain ⟨_, _, _, hb, _⟩ := B.ob
  obtain ⟨_, hg⟩ := B.gr
  exact ⟨es, s _ _ h1 pb pg, h2, h4, fun j a e => s _ _ (h3 j a e) (ne_of (h3 j a e) hb exo_lst) (ne_of (h3 j a e) hg exo_lst)⟩
theorem BagAt.put {H : Hp} {b g D : Addr} {o : HO} (B : BagAt H b g) (h1 : D ≠ b) (h2 : D ≠ g) : BagAt (upd H D o) b g := by
  obtain ⟨s, c, al, hb, ha⟩ := B.ob
  obtain ⟨gs, hg⟩ := B.gr
  exact ⟨⟨s, c, al, by rw [upd_ne h1.symm]; exact hb, ha⟩, gs, by rw [upd_ne h2.symm]; exact hg⟩
theorem dp_bools {K : PySem.W.Frag} {H : Hp} : ∀ l : List Bool, DpAll K H (l.map V.bl) (l.map PyData.bool)
  | [] => .nil
  | x :: r => .cons (.bl x) (dp_bools r)
def flgB (i : Nat) : List Bool := (List.range 43).map fun j => decide (j = i)
theorem flg_bools (i : Nat) : flg i 43 = (flgB i).map V.bl := by
  unfold flg flgB
  rw [List.map_map]
  rfl
theorem flgB_ok : ∀ i, i < 43 → SeqAt.shaped (.list ((flgB i).map PyData.bool)) = true ∧ PyData.eqv (.list ((flgB i).map PyData.bool)) (.list ((flgB i).map PyData.bool)) = true := by
  decide +kernel
theorem flg_turn (i k : Nat) {Z : V} (hZ : Z = .bl (decide (V.int (0 + (k : Int)) = V.int (i : Int)))) : flg i k ++ [Z] = flg i (k + 1) := by
  rw [← flg_one, hZ]
  congr 3
  simp
  omega
end Rip
set_option Elab.async false
set_option linter.all false
set_option maxRecDepth 100000
set_option maxHeartbeats 4000000
/-! The law, run. -/
namespace Rip
open PySem PySem.Spec PyProof.Rows L2
section
variable {P : Program} {w : World} {K : PySem.W.Frag} {mg : Str → Option Value} {base : Heap} {C : Nat → Addr} {Wv : Addr}
def spLaw (K : PySem.W.Frag) : Sp := fun vs H Q _ => ∃ (a : Addr) (ns : List Int), vs = [.ref a] ∧ SqL K H a (ns.map V.int) ∧ ns.length ≤ 63 ∧ ∀ H', Q (.bl true) H'
abbrev scLN : List Str := ["_law_script", "_law_bag_here", "_law_made", "_law_things", "_law_kept", "_law_turn", "_law_number", "_law_error", "_law_at", "_law_told"]
theorem scL : FnScope scLN ["_law_script"] (defScope sLaw) := ⟨rfl, rfl, rfl, by decide +kernel, rfl, by decide +kernel, by decide +kernel⟩
theorem ok_law {f fB fO fD fF fE fI : Addr} {fd fdB fdO fdD fdF fdE fdI : FuncData} (F : Fun K "law" "law" sLaw f fd) (B : Blt mg) (T : ClsT K mg C Wv) (N : Inits P w K mg base C)
    (FB : Fun K "_law_bag" "_law_bag" sBag fB fdB) (bB : Binds K fdB ["_law_script"] []) (gB : mg "_law_bag" = some (.ref fB)) (GB : FnOk P w K mg base CX0 1 fB fdB ["_law_script"] (spBag K))
    (FO : Fun K "_law_some" "_law_some" sSome fO fdO) (bO : Binds K fdO ["_law_bag_here", "_law_things"] []) (gO : mg "_law_some" = some (.ref fO)) (GO : FnOk P w K mg base CX0 2 fO fdO ["_law_bag_here", "_law_things"] spSome)
    (FD : Fun K "_law_deep" "_law_deep" sDeep fD fdD) (bD : Binds K fdD [] []) (gD : mg "_law_deep" = some (.ref fD)) (GD : FnOk P w K mg base CX0 1 fD fdD [] spDeep)
    (FF : Fun K "_law_flags" "_law_flags" sFlags fF fdF) (bF : Binds K fdF ["_law_e"] []) (gF : mg "_law_flags" = some (.ref fF)) (GF : FnOk P w K mg base CX0 1 fF fdF ["_law_e"] (spFlags C))
    (FE : Fun K "_law_fields" "_law_fields" sFields fE fdE) (bE : Binds K fdE ["_law_e"] []) (gE : mg "_law_fields" = some (.ref fE)) (GE : FnOk P w K mg base CX0 1 fE fdE ["_law_e"] (spFields C))
    (FI : Fun K "_law_is" "_law_is" sIs fI fdI) (bI : Binds K fdI ["_law_thing", "_law_due"] []) (gI : mg "_law_is" = some (.ref fI)) (GI : ∀ n, FnOk P w K mg base CX0 n fI fdI ["_law_thing", "_law_due"] (spIs n)) :
    FnOk P w K mg base CX0 31 f fd ["_law_script"] (spLaw K) := by
  refine F.ok scL (fun vs H Q E h => ?_) (fun cdv A outer s H vs Q E hr h => ?_)
  · obtain ⟨a, ns, rfl, _⟩ := h
    rfl
  · obtain ⟨a, ns, rfl, hS, hlen, q⟩ := h
    refine ⟨_,
      (pss_cons (ps_set (i := 1) scL.nd rfl (.inr rfl) (pe_call GB (hr.mono (by decide)) (by rfl) gB FB.kp bB .nil pass0 (pa_cons (pv 0) pa_nil)))
      (pss_cons (ps_set (i := 2) scL.nd rfl (.inl rfl) (pe_lst (err0_cons (pe_err0 T 0 (by decide) (by rfl) (by rfl) (by decide)) (err0_cons (pe_err0 T 1 (by decide) (by rfl) (by rfl) (by decide)) (err0_cons (pe_err0 T 2 (by decide) (by rfl) (by rfl) (by decide)) (err0_cons (pe_err0 T 3 (by decide) (by rfl) (by rfl) (by decide)) (err0_cons (pe_err0 T 4 (by decide) (by rfl) (by rfl) (by decide)) (err0_cons (pe_err0 T 5 (by decide) (by rfl) (by rfl) (by decide)) (err0_cons (pe_err0 T 6 (by decide) (by rfl) (by rfl) (by decide)) (err0_nil 7))))))))))
      (pss_cons (ps_set (i := 2) scL.nd rfl (.inl rfl) (pe_op op_cat (pv 2) (pe_lst (err0_cons (pe_err0 T 7 (by decide) (by rfl) (by rfl) (by decide)) (err0_cons (pe_err0 T 8 (by decide) (by rfl) (by rfl) (by decide)) (err0_cons (pe_err0 T 9 (by decide) (by rfl) (by rfl) (by decide)) (err0_cons (pe_err0 T 10 (by decide) (by rfl) (by rfl) (by decide)) (err0_cons (pe_err0 T 11 (by decide) (by rfl) (by rfl) (by decide)) (err0_cons (pe_err0 T 12 (by decide) (by rfl) (by rfl) (by decide)) (err0_cons (pe_err0 T 13 (by decide) (by rfl) (by rfl) (by decide)) (err0_nil 14)))))))))))
      (pss_cons (ps_set (i := 2) scL.nd rfl (.inl rfl) (pe_op op_cat (pv 2) (pe_lst (err0_cons (pe_err0 T 14 (by decide) (by rfl) (by rfl) (by decide)) (err0_cons (pe_err0 T 15 (by decide) (by rfl) (by rfl) (by decide)) (err0_cons (pe_err0 T 16 (by decide) (by rfl) (by rfl) (by decide)) (err0_cons (pe_err0 T 17 (by decide) (by rfl) (by rfl) (by decide)) (err0_cons (pe_err0 T 18 (by decide) (by rfl) (by rfl) (by decide)) (err0_cons (pe_err0 T 19 (by decide) (by rfl) (by rfl) (by decide)) (err0_cons (pe_err0 T 20 (by decide) (by rfl) (by rfl) (by decide)) (err0_nil 21)))))))))))
      (pss_cons (ps_set (i := 2) scL.nd rfl (.inl rfl) (pe_op op_cat (pv 2) (pe_lst (err0_cons (pe_err0 T 21 (by decide) (by rfl) (by rfl) (by decide)) (err0_cons (pe_err0 T 22 (by decide) (by rfl) (by rfl) (by decide)) (err0_cons (pe_err0 T 23 (by decide) (by rfl) (by rfl) (by decide)) (err0_cons (pe_err0 T 24 (by decide) (by rfl) (by rfl) (by decide)) (err0_cons (pe_err0 T 25 (by decide) (by rfl) (by rfl) (by decide)) (err0_cons (pe_err0 T 26 (by decide) (by rfl) (by rfl) (by decide)) (err0_cons (pe_err0 T 27 (by decide) (by rfl) (by rfl) (by decide)) (err0_nil 28)))))))))))
      (pss_cons (ps_set (i := 2) scL.nd rfl (.inl rfl) (pe_op op_cat (pv 2) (pe_lst (err0_cons (pe_err0 T 28 (by decide) (by rfl) (by rfl) (by decide)) (err0_cons (pe_err0 T 29 (by decide) (by rfl) (by rfl) (by decide)) (err0_cons (pe_err0 T 30 (by decide) (by rfl) (by rfl) (by decide)) (err0_nil 31)))))))
      (pss_cons (ps_set (i := 3) scL.nd rfl (.inr rfl) (pe_lst (pa_cons pe_int (pa_cons (pe_un un_neg pe_int) (pa_cons pe_bl (pa_cons pe_non (pa_cons pe_str (pa_cons (pe_tup (pa_cons pe_int (pa_cons pe_str pa_nil))) (pa_cons (pe_lst (pa_cons pe_int pa_nil)) (pa_cons (pe_disp (pps_cons pe_int pe_int pps_nil) rfl rfl (by decide) (by decide)) (pa_cons (pe_tup (pa_cons pe_int (pa_cons pe_int (pa_cons pe_int pa_nil)))) (pa_cons (pe_op op_pow pe_int pe_int) (pa_cons pe_str (pa_cons (pe_call0 GD (hr.mono (by decide)) (by rfl) gD FD.kp bD .nil pass0) (pa_cons pe_str pa_nil)))))))))))))))
      (pss_cons (ps_setLc (i := 4) (own := [("_law_turn", 5)]) (g := (gName 5)) (tt := tYes) rfl scL.nd rfl rfl (sw_true rfl rfl rfl (by decide +kernel)) (pi_range1 (by rfl) B.range (pa_cons pe_int pa_nil)) (blkOk_by (own := [("_law_turn", 5)]) (N := scLN) (sc := defScope sLaw) (by decide +kernel)) (fun _ _ _ _ _ => (pg_name (i := 5) scL.nd rfl (.inl rfl))) (fun _ _ _ _ _ => pts_nil) (fun _ _ _ _ _ => (pe_call GO (hr.mono (by decide)) (by rfl) gO FO.kp bO .nil pass0 (pa_cons (pv 1) (pa_cons (pv 3) pa_nil)))))
      (pss_cons (ps_set (i := 2) scL.nd rfl (.inl rfl) (pe_op op_cat (pv 2) (pe_lst (err1_cons (pe_err1 T N hr (by decide) pass0 31 (by decide) (by decide) (by rfl) (by rfl) (by decide) (pe_kept 31 0 rfl (pe_ix ix_list (pv 4) pe_int (fun _ _ => rfl)))) (err1_cons (pe_err1 T N hr (by decide) pass0 32 (by decide) (by decide) (by rfl) (by rfl) (by decide) (pe_kept 32 1 rfl (pe_ix ix_list (pv 4) pe_int (fun _ _ => rfl)))) (err1_cons (pe_err1 T N hr (by decide) pass0 33 (by decide) (by decide) (by rfl) (by rfl) (by decide) (pe_kept 33 2 rfl (pe_ix ix_list (pv 4) pe_int (fun _ _ => rfl)))) (err1_cons (pe_err1 T N hr (by decide) pass0 34 (by decide) (by decide) (by rfl) (by rfl) (by decide) (pe_kept 34 3 rfl (pe_ix ix_list (pv 4) pe_int (fun _ _ => rfl)))) (err1_nil 35))))))))
      (pss_cons (ps_set (i := 2) scL.nd rfl (.inl rfl) (pe_op op_cat (pv 2) (pe_lst (err1_cons (pe_err1 T N hr (by decide) pass0 35 (by decide) (by decide) (by rfl) (by rfl) (by decide) (pe_kept 35 4 rfl (pe_ix ix_list (pv 4) pe_int (fun _ _ => rfl)))) (err1_cons (pe_err1 T N hr (by decide) pass0 36 (by decide) (by decide) (by rfl) (by rfl) (by decide) (pe_kept 36 5 rfl (pe_ix ix_list (pv 4) pe_int (fun _ _ => rfl)))) (err1_cons (pe_err1 T N hr (by decide) pass0 37 (by decide) (by decide) (by rfl) (by rfl) (by decide) (pe_kept 37 6 rfl (pe_ix ix_list (pv 4) pe_int (fun _ _ => rfl)))) (err1_cons (pe_err1 T N hr (by decide) pass0 38 (by decide) (by decide) (by rfl) (by rfl) (by decide) (pe_kept 38 7 rfl (pe_ix ix_list (pv 4) pe_int (fun _ _ => rfl)))) (err1_nil 39))))))))
      (pss_cons (ps_set (i := 2) scL.nd rfl (.inl rfl) (pe_op op_cat (pv 2) (pe_lst (err1_cons (pe_err1 T N hr (by decide) pass0 39 (by decide) (by decide) (by rfl) (by rfl) (by decide) (pe_kept 39 8 rfl (pe_ix ix_list (pv 4) pe_int (fun _ _ => rfl)))) (err1_cons (pe_err1 T N hr (by decide) pass0 40 (by decide) (by decide) (by rfl) (by rfl) (by decide) (pe_kept 40 9 rfl (pe_ix ix_list (pv 4) pe_int (fun _ _ => rfl)))) (err1_cons (pe_err1 T N hr (by decide) pass0 41 (by decide) (by decide) (by rfl) (by rfl) (by decide) (pe_kept 41 10 rfl (pe_ix ix_list (pv 4) pe_int (fun _ _ => rfl)))) (err1_cons (pe_err1 T N hr (by decide) pass0 42 (by decide) (by decide) (by rfl) (by rfl) (by decide) (pe_kept 42 11 rfl (pe_ix ix_list (pv 4) pe_int (fun _ _ => rfl)))) (err1_nil 43))))))))
      (pss_cons (ps_for PassesOwn.never rfl (pi_enum (by rfl) B.enumerate (pa_cons (pv 2) pa_nil)) (pg_tup rfl (pgs_cons (pg_name (i := 6) scL.nd rfl (.inr rfl)) (pgs_cons (pg_name (i := 7) scL.nd rfl (.inl rfl)) pgs_nil)))
        (pss_cons (ps_if (pw_or (pt_cmpR (op_neD hr.units) (pe_call GF (hr.mono (by decide)) (by rfl) gF FF.kp bF .nil pass0 (pa_cons (pv 7) pa_nil)) (pe_lc (own := [("_law_at", 8)]) (g := (gName 8)) (tt := tYes) rfl scL.nd (pi_range1 (by rfl) B.range (pa_cons pe_int pa_nil)) (blkOk_by (own := [("_law_at", 8)]) (N := scLN) (sc := defScope sLaw) (by decide +kernel)) (fun _ _ _ _ _ => (pg_name (i := 8) scL.nd rfl (.inl rfl))) (fun _ _ _ _ _ => pts_nil) (fun _ _ _ _ _ => (pe_cmpR op_eq (pv 8) (pv 6) (nomark _)))) (nomark _)) (pw_or1 (pt_not (pt_val (pe_callB call_isX (by rfl) B.isinstance PyProof.Rows.boot_isinstance (pa_cons (pv 7) (pa_cons (pe_glob (v := .ref Wv) (by rfl) T.gW rfl) pa_nil))))))).pt
          (pss_one (ps_ret pe_bl)) pss_nil)
        (pss_cons (ps_set (i := 9) scL.nd rfl (.inl rfl) (pe_call GE (hr.mono (by decide)) (by rfl) gE FE.kp bE .nil pass0 (pa_cons (pv 7) pa_nil)))
        (pss_cons (ps_if (pw_or (pt_not (pt_val (pe_callB call_isX (by rfl) B.isinstance PyProof.Rows.boot_isinstance (pa_cons (pv 7) (pa_cons (pe_bltn (v := .ty "ValueError") (by rfl) T.gV PyProof.Rows.Boot.«ValueError» rfl) pa_nil))))) (pw_or1 (pt_cmpR op_ne (pe_callB call_len_seq (by rfl) B.len PySem.boot_len (pa_cons (pv 9) pa_nil)) (pe_callTy call_int1 (by rfl) B.int PyProof.Rows.boot_int (pa_cons (pe_cmpR op_ge (pv 6) pe_int (nomark _)) pa_nil)) (nomark _)))).pt
          (pss_one (ps_ret pe_bl)) pss_nil)
        (pss_one (ps_if (pw_and (pt_cmpR op_ge (pv 6) pe_int (nomark _)) (pw_and1 (pt_not (pt_val (pe_call (GI 24) (hr.mono (by decide)) (by rfl) gI FI.kp bI .nil pass0 (pa_cons (pe_ix ix_list (pv 9) pe_int (fun _ _ => rfl)) (pa_cons (pe_ix ix_list (pv 4) (pe_op op_sub (pv 6) pe_int) (fun _ _ => rfl)) pa_nil))))))).pt
          (pss_one (ps_ret pe_bl)) pss_nil))))))
      (pss_one (ps_ret pe_bl)))))))))))))), ?_⟩
    have z1000 : 1000 ≤ sizeLine := by rw [sizeLine_eq]; decide
    -- the bag
    refine ⟨_, rfl, a, ns, rfl, hS, hlen, fun b g H1 sH1 nb ng B1 => ?_⟩
    dsimp only [gName]
    refine st_eq (σ' := [some (.ref a), some (.ref b), none, none, none, none, none, none, none, none]) rfl ?_
    -- the errors without fields
    refine fun as0 H2 hl0 s2 hx0 => ⟨by rw [List.length_map]; omega, fun p0 np0 => ?_⟩
    have sA := same_put (o := .lst (as0.map V.ref)) s2 (s2.free np0)
    have nA : H1 p0 = none := s2.free np0
    have M0 : Made0 C (upd H2 p0 (.lst (as0.map V.ref))) p0 7 := ⟨as0, upd_same, hl0, by decide, fun j e he => by
      have z := hx0 j e he
      rw [Nat.zero_add] at z
      exact (same_upd np0) _ _ z⟩
    dsimp only [gName]
    refine st_eq (σ' := [some (.ref a), some (.ref b), some (.ref p0), none, none, none, none, none, none, none]) rfl ?_
    refine ⟨_, rfl, fun as1 H3 hl1 s3 hx1 => made0_step sA nA M0 (by decide) as1 H3 hl1 s3 hx1 fun p1 H4 sB nB M1 => ?_⟩
    dsimp only [gName]
    refine st_eq (σ' := [some (.ref a), some (.ref b), some (.ref p1), none, none, none, none, none, none, none]) rfl ?_
    refine ⟨_, rfl, fun as2 H5 hl2 s5 hx2 => made0_step sB nB M1 (by decide) as2 H5 hl2 s5 hx2 fun p2 H6 sC nC M2 => ?_⟩
    dsimp only [gName]
    refine st_eq (σ' := [some (.ref a), some (.ref b), some (.ref p2), none, none, none, none, none, none, none]) rfl ?_
    refine ⟨_, rfl, fun as3 H7 hl3 s7 hx3 => made0_step sC nC M2 (by decide) as3 H7 hl3 s7 hx3 fun p3 H8 sD nD M3 => ?_⟩
    dsimp only [gName]
    refine st_eq (σ' := [some (.ref a), some (.ref b), some (.ref p3), none, none, none, none, none, none, none]) rfl ?_
    refine ⟨_, rfl, fun as4 H9 hl4 s9 hx4 => made0_step sD nD M3 (by decide) as4 H9 hl4 s9 hx4 fun p4 HA sE nE M4 => ?_⟩
    dsimp only [gName]
    refine st_eq (σ' := [some (.ref a), some (.ref b), some (.ref p4), none, none, none, none, none, none, none]) rfl ?_
    clear M0 M1 M2 M3 sA sB sC sD
    -- the menu
    have BA := B1.same sE
    obtain ⟨bs, bc, bal, hb, _⟩ := id BA.ob
    obtain ⟨gs, hg⟩ := id BA.gr
    have le : ∀ {n : Nat}, n ≤ 1000 → n ≤ sizeLine := fun h => by omega
    refine ⟨7, rfl, le (Nat.le_of_ble_eq_true rfl), fun t1 nt1 => ?_⟩
    have sB1 := same_upd (o := .tup [.int 0, .str "a"]) nt1
    have e1 : upd HA t1 (.tup [.int 0, .str "a"]) t1 = some (.tup [.int 0, .str "a"]) := upd_same
    generalize upd HA t1 (.tup [.int 0, .str "a"]) = HB at sB1 e1 ⊢
    refine ⟨le (Nat.le_of_ble_eq_true rfl), fun l1 nl1 => ?_⟩
    have sB2 := same_upd (o := .lst [.int 1]) nl1
    have e2 : upd HB l1 (.lst [.int 1]) l1 = some (.lst [.int 1]) := upd_same
    generalize upd HB l1 (.lst [.int 1]) = HC at sB2 e2 ⊢
    refine fun d1 nd1 => ⟨upd_same, [(.inl 2, .int 3)], rfl, by decide, ?_⟩
    rw [show upd (upd HC d1 (.dK [])) d1 (.dK (mergeK [] [(.inl 2, .int 3)])) = upd HC d1 (.dK [(.inl 2, .int 3)]) from upd_upd]
    have sB3 := same_upd (o := .dK [(.inl 2, .int 3)]) nd1
    have e3 : upd HC d1 (.dK [(.inl 2, .int 3)]) d1 = some (.dK [(.inl 2, .int 3)]) := upd_same
    generalize upd HC d1 (.dK [(.inl 2, .int 3)]) = HD at sB3 e3 ⊢
    refine ⟨le (Nat.le_of_ble_eq_true rfl), fun t2 nt2 => ?_⟩
    have sB4 := same_upd (o := .tup [.int 1, .int 2, .int 0]) nt2
    have e4 : upd HD t2 (.tup [.int 1, .int 2, .int 0]) t2 = some (.tup [.int 1, .int 2, .int 0]) := upd_same
    generalize upd HD t2 (.tup [.int 1, .int 2, .int 0]) = HE at sB4 e4 ⊢
    have sHE : Same HA HE := ((sB1.trans sB2).trans sB3).trans sB4
    refine ⟨_, _, rfl, rfl, ⟨by decide, by decide, by decide⟩, b, g, _, _, rfl, sHE _ _ hb, sHE _ _ hg, fun vd HF sF tvd => ?_⟩
    refine ⟨le (Nat.le_of_ble_eq_true rfl), fun th nth => ?_⟩
    have sG : Same HA HF := sHE.trans sF
    have nthA : HA th = none := sG.free nth
    generalize hxs : [V.int 0, V.int (-7), V.bl true, V.non, V.str "word", V.ref t1, V.ref l1, V.ref d1, V.ref t2, V.int (10 ^ (29 : Int).toNat), V.str "", vd, V.str "ring"] = xs
    have eth : upd HF th (.lst xs) th = some (.lst xs) := upd_same
    have sH := sG.trans (same_upd (o := .lst xs) nth)
    have hlx : xs.length = 13 := by rw [← hxs]; rfl
    have thb : th ≠ b := (ne_of_none hb nthA).symm
    have thg : th ≠ g := (ne_of_none hg nthA).symm
    have n1A : HA t1 = none := nt1
    have n2A : HA l1 = none := sB1.free nl1
    have n3A : HA d1 = none := (sB1.trans sB2).free nd1
    have n4A : HA t2 = none := ((sB1.trans sB2).trans sB3).free nt2
    have sTh : Same HF (upd HF th (.lst xs)) := same_upd nth
    have TR : ∀ x ∈ xs, Tr b g (upd HF th (.lst xs)) 23 x := fun x hx => by
      rw [← hxs] at hx
      have sc : ∀ v, scV v = true → Tr b g (upd HF th (.lst xs)) 23 v := fun v h => .sc h
      simp only [List.mem_cons, List.not_mem_nil, or_false] at hx
      rcases hx with rfl | rfl | rfl | rfl | rfl | rfl | rfl | rfl | rfl | rfl | rfl | rfl | rfl
      · exact sc _ rfl
      · exact sc _ rfl
      · exact sc _ rfl
      · exact sc _ rfl
      · exact sc _ rfl
      · exact .tup (n := 22) (sTh _ _ (sF _ _ (sB4 _ _ (sB3 _ _ (sB2 _ _ e1))))) (ne_of_none hb n1A).symm (ne_of_none hg n1A).symm (by decide) fun y hy => .sc (by
          simp only [List.mem_cons, List.not_mem_nil, or_false] at hy
          rcases hy with rfl | rfl <;> rfl)
      · exact .lst (n := 22) (sTh _ _ (sF _ _ (sB4 _ _ (sB3 _ _ e2)))) (ne_of_none hb n2A).symm (ne_of_none hg n2A).symm (by decide) fun y hy => .sc (by
          simp only [List.mem_cons, List.not_mem_nil, or_false] at hy
          rcases hy with rfl
          rfl)
      · exact .dct (sTh _ _ (sF _ _ (sB4 _ _ e3))) (ne_of_none hb n3A).symm (ne_of_none hg n3A).symm
      · exact .tup (n := 22) (sTh _ _ (sF _ _ e4)) (ne_of_none hb n4A).symm (ne_of_none hg n4A).symm (by decide) fun y hy => .sc (by
          simp only [List.mem_cons, List.not_mem_nil, or_false] at hy
          rcases hy with rfl | rfl | rfl <;> rfl)
      · exact sc _ rfl
      · exact sc _ rfl
      · exact tvd.same (SameB.of sTh)
      · exact sc _ rfl
    have M5 := M4.same sH
    have B5 := BA.same sH
    generalize upd HF th (.lst xs) = H10 at eth sH TR M5 B5 ⊢
    dsimp only [gName]
    refine st_eq (σ' := [some (.ref a), some (.ref b), some (.ref p4), some (.ref th), none, none, none, none, none, none]) rfl ?_
    -- what is kept
    have p4b : p4 ≠ b := by
      obtain ⟨_, _, _, z, _⟩ := B1.ob
      exact (ne_of_none z nE).symm
    have p4g : p4 ≠ g := by
      obtain ⟨_, z⟩ := B1.gr
      exact (ne_of_none z nE).symm
    obtain ⟨bs2, bc2, bal2, hb2, _⟩ := id B5.ob
    obtain ⟨gs2, hg2⟩ := id B5.gr
    refine ⟨12, rfl, by decide, by decide, fun D nD2 => ?_⟩
    have Db : D ≠ b := (ne_of_none hb2 nD2).symm
    have Dg : D ≠ g := (ne_of_none hg2 nD2).symm
    refine lc_range (n := 12) (fun i H' => BagAt H' b g ∧ SameB b g H10 H' ∧ ∃ ks : List V, H' D = some (.lst ks) ∧ ks.length = i ∧ ∀ x ∈ ks, x ∈ xs)
      ⟨B5.same (same_upd nD2), SameB.of (same_upd nD2), [], upd_same, rfl, fun x hx => nomatch hx⟩ ?_ ?_
    · rintro i H' hi ⟨B', sb, ks, eD, hk, hx⟩
      refine ⟨rfl, _, rfl, _, rfl, b, g, th, xs, rfl, B', sb _ _ eth thb thg, thb, thg, by omega, by omega, fun x H'' hxm B'' sb' => ?_⟩
      refine ⟨ks, sb' _ _ eD Db Dg, small1000 (by omega), B''.put Db Dg, fun c o e c1 c2 => ?_, ks ++ [x], upd_same, by rw [List.length_append, hk]; rfl, fun y hy => ?_⟩
      · rw [upd_ne (ne_of_none e nD2)]
        exact sb' _ _ (sb _ _ e c1 c2) c1 c2
      · rcases List.mem_append.mp hy with h | h
        · exact hx y h
        · rw [List.mem_singleton.mp h]
          exact hxm
    · rintro H11 ⟨B6, sb, ks, eD, hk, hx⟩
      have M6 := (M5.sameB B5 sb p4b p4g).made ks
      have TK : ∀ x ∈ ks, Tr b g H11 23 x := fun x h => (TR x (hx x h)).same sb
      dsimp only [gName]
      refine st_eq (σ' := [some (.ref a), some (.ref b), some (.ref p4), some (.ref th), some (.ref D), none, none, none, none, none]) rfl ?_
      -- the errors with fields
      refine ⟨_, rfl, D, ks, rfl, eD, by decide, by rw [hk]; decide, fun as5 HG hl5 s15 hx5 => made_step (Same.refl H11) M6 (by decide) as5 HG hl5 s15 hx5 fun p5 HH s16 _ M7 => ?_⟩
      dsimp only [gName]
      refine st_eq (σ' := [some (.ref a), some (.ref b), some (.ref p5), some (.ref th), some (.ref D), none, none, none, none, none]) rfl ?_
      refine ⟨_, rfl, D, ks, rfl, s16 _ _ eD, by decide, by rw [hk]; decide, fun as6 HI hl6 s17 hx6 => made_step s16 M7 (by decide) as6 HI hl6 s17 hx6 fun p6 HJ s18 _ M8 => ?_⟩
      dsimp only [gName]
      refine st_eq (σ' := [some (.ref a), some (.ref b), some (.ref p6), some (.ref th), some (.ref D), none, none, none, none, none]) rfl ?_
      refine ⟨_, rfl, D, ks, rfl, s18 _ _ eD, by decide, by rw [hk]; decide, fun as7 HK hl7 s19 hx7 => made_step s18 M8 (by decide) as7 HK hl7 s19 hx7 fun p7 HL s20 _ M9 => ?_⟩
      dsimp only [gName]
      refine st_eq (σ' := [some (.ref a), some (.ref b), some (.ref p7), some (.ref th), some (.ref D), none, none, none, none, none]) rfl ?_
      obtain ⟨es, h1, h2, h3⟩ := M9.ob
      have eDL := s20 _ _ eD
      have TL : ∀ x ∈ ks, Tr b g HL 23 x := fun x h => (TK x h).same (SameB.of s20)
      clear M4 M5 M6 M7 M8 TR TK
      -- the loop over all of them
      refine ⟨_, rfl, p7, es.map V.ref, rfl, .inl (.inl h1), for_it walk_enum (fun i σ H' => ∃ y5 y6 y7 y8 y9, σ = [some (.ref a), some (.ref b), some (.ref p7), some (.ref th), some (.ref D), y5, y6, y7, y8, y9] ∧ Same HL H')
        ⟨_, _, _, _, _, rfl, Same.refl HL⟩ (fun i σ H' _ ⟨_, _, _, _, _, _, z⟩ => .inl (.inl (z _ _ h1))) ?_ ?_⟩
      · rintro i x σ H' H'' hi ⟨y5, y6, y7, y8, y9, rfl, sL⟩ ⟨T', v1, v2, rfl, nT, rfl, q1, q2⟩
        have q1' : V.int (i : Int) = v1 := Option.some.inj q1
        subst q1'
        rw [List.length_map] at hi
        have hi43 : i < 43 := by omega
        have q2 : (es.map V.ref)[i]? = some v2 := q2
        rw [List.getElem?_map] at q2
        obtain ⟨e, he, rfl⟩ : ∃ e, es[i]? = some e ∧ V.ref e = v2 := by
          cases z : es[i]? with
          | none =>
            rw [z] at q2
            cases q2
          | some e =>
            rw [z] at q2
            exact ⟨e, rfl, Option.some.inj q2⟩
        have sT := sL.trans (same_upd (o := .tup [.int (i : Int), .ref e]) nT)
        refine ⟨T', _, rfl, .inl (.inl upd_same), rfl, _, _, rfl, _, [], rfl, rfl, ?_⟩
        generalize upd H' T' (.tup [.int (i : Int), .ref e]) = HM at sT ⊢
        have E1 := (h3 i e he).same sT
        generalize hv : ks.getD (i - 31) .non = v at E1
        refine st_eq (σ' := [some (.ref a), some (.ref b), some (.ref p7), some (.ref th), some (.ref D), y5, some (.int (i : Int)), some (.ref e), y8, y9]) rfl ?_
        -- the flags
        refine ⟨_, rfl, e, i, v, rfl, hi43, E1, fun pf HN sN nf hf => ⟨43, rfl, by decide, by decide, fun D2 nD2 => ?_⟩⟩
        refine lc_range (n := 43) (fun k H2 => Same HN H2 ∧ H2 D2 = some (.lst (flg i k))) ⟨same_upd nD2, upd_same⟩ ?_ ?_
        · rintro k H2 hk2 ⟨s2, e2⟩
          exact ⟨rfl, _, rfl, _, rfl, rfl, _, e2, by rw [flg_len]; exact small1000 (by omega), same_put s2 nD2, by rw [upd_same, flg_turn i k rfl]⟩
        · rintro H2 ⟨s2, e2⟩
          have f1 := flgB_ok i hi43
          rw [flg_bools] at hf e2
          have f2 : DpAll K H2 ((flgB i).map V.bl) ((flgB i).map PyData.bool) := dp_bools _
          refine ⟨_, _, .lst (.inl (.inl (s2 _ _ hf))) f2, .lst (.inl (.inl e2)) f2, f1.1, f1.1, ?_⟩
          rw [f1.2]
          refine ⟨_, rfl, iteF ?_⟩
          have sP := (sT.trans sN).trans s2
          obtain ⟨d, a1, a2, a3⟩ := (E1.same sN).same s2
          refine ⟨_, rfl, e, C i, d, _, _, _, rfl, a1, fun dx z => ⟨_, a2 dx z⟩, T.ex i hi43, .own _, T.kitW i hi43, _, rfl, iteF ?_⟩
          -- the fields
          refine ⟨_, rfl, e, i, v, rfl, hi43, ⟨d, a1, a2, a3⟩, fun l HP sQ nl z0 z1 => ?_⟩
          dsimp only [gName]
          refine st_eq (σ' := [some (.ref a), some (.ref b), some (.ref p7), some (.ref th), some (.ref D), y5, some (.int (i : Int)), some (.ref e), y8, some (.ref l)]) rfl ?_
          have sR := sP.trans sQ
          refine ⟨_, rfl, e, C i, d, _, _, _, rfl, sQ _ _ a1, fun dx z => ⟨_, sQ _ _ (a2 dx z)⟩, T.ex i hi43, .ty "ValueError", T.kitV i hi43, _, rfl, iteF ?_⟩
          by_cases h31 : i < 31
          · have hl := z0 h31
            refine ⟨_, rfl, l, _, rfl, .inl (.inl (.inl hl)), _, rfl, _, _, rfl, rfl, .inr ⟨_, rfl, ?_⟩⟩
            rw [decide_eq_false (show ¬ (31 : Int) ≤ (i : Int) by omega)]
            refine ⟨rfl, _, rfl, iteNS rfl ?_⟩
            refine ⟨_, rfl, _, _, rfl, rfl, _, rfl, iteN (by omega) ?_⟩
            exact ⟨_, _, _, _, _, rfl, sR⟩
          · have hl := z1 (by omega)
            refine ⟨_, rfl, l, _, rfl, .inl (.inl (.inl hl)), _, rfl, _, _, rfl, rfl, .inr ⟨_, rfl, ?_⟩⟩
            rw [decide_eq_true (show (31 : Int) ≤ (i : Int) by omega)]
            refine ⟨rfl, _, rfl, iteNS rfl ?_⟩
            have hlt : i - 31 < ks.length := by omega
            have hget : ks[i - 31]? = some v := by
              rw [← hv, List.getD_eq_getElem?_getD, List.getElem?_eq_getElem hlt]
              rfl
            refine ⟨_, rfl, _, _, rfl, rfl, _, rfl, iteY (by omega) ?_⟩
            refine ⟨_, rfl, l, [v], 0, v, rfl, rfl, .inl (.inl hl), at_of (j := 0) rfl rfl, _, rfl, _, rfl, _, _, rfl, rfl, D, ks, _, v, rfl, rfl, .inl (.inl (sR _ _ eDL)), at_of (j := i - 31) (by omega) hget, ?_⟩
            refine ⟨b, g, v, 23, by decide, rfl, (TL v (at_mem hget)).same (SameB.of sR), fun HQ sS => ⟨_, rfl, iteF ?_⟩⟩
            exact ⟨_, _, _, _, _, rfl, sR.trans sS⟩
      · rintro σ H' ⟨y5, y6, y7, y8, y9, rfl, sL⟩
        exact q H'
end
end Rip
set_option Elab.async false
set_option linter.all false
set_option maxRecDepth 100000
set_option maxHeartbeats 4000000
/-! What the top has written. -/
namespace Rip
open PySem PySem.Spec PyProof.Rows L2
/-- where the class i stands -/
def cAt (K : PySem.W.Frag) (i : Nat) : Addr := He.ga K (nm i)
def wAt (K : PySem.W.Frag) : Addr := He.ga K "WaveError"
def clsOk (K : PySem.W.Frag) (c : Addr) : Bool :=
  PySem.W.keepIn K (.ref c) && (decide (PySem.W.findIn K (.ref c) "__getattribute__" = some (some (.builtin "BaseException.__getattribute__"))) &&
  (decide (PySem.W.findIn K (.ref c) "__getattr__" = some none) && (decide (PySem.W.subIn K (.ref c) (.type "BaseException") = some true) && (PySem.W.hasDictIn K c &&
  (decide (PySem.W.findIn K (.ref c) "__class__" = some (some (.builtin "object.__class__"))) && (decide (PySem.W.mroIn K c (.type "object") = some true) &&
  (decide (PySem.W.kitOne K (.ref c) (.ref (wAt K)) = some true) && decide (PySem.W.kitOne K (.ref c) (.type "ValueError") = some true))))))))
def oexB (K : PySem.W.Frag) (C : Addr) : Bool := match K.lookup C with
  | some ⟨.type "type", _, .cls cd, sl⟩ => (match cd.mro, sl.toList with
    | .ref C' :: bm, [_, _, _, _, some (.builtin n), _] => C' == C && (n == "ValueError.__new__" && (!cd.hasDel && (cd.hasDict && PySem.HandSPX.refsVE bm)))
    | _, _ => false)
  | _ => false
def iniOk (K : PySem.W.Frag) (i : Nat) : Bool :=
  oexB K (cAt K i) && (decide (PySem.W.findIn K (.ref (cAt K i)) "__setattr__" = some (some (.builtin "object.__setattr__"))) && (decide (PySem.W.typeIn K (.ref (cAt K i)) = some (.type "type")) && decide (PySem.W.findIn K (.ref (cAt K i)) (fl i) = some none)))
def g1 (K : PySem.W.Frag) : Bool := (List.range 43).all fun i => decide (PySem.W.nsIn K mainGlobals (nm i) = some (some (.ref (cAt K i)))) && clsOk K (cAt K i)
def g2 (K : PySem.W.Frag) : Bool := (List.range 31).all fun i => PySem.W.excIn K (cAt K i) bmVE "ValueError.__new__"
def g3 (K : PySem.W.Frag) : Bool := (List.range 43).all fun i => (List.range 43).all fun j => decide (PySem.W.kitOne K (.ref (cAt K i)) (.ref (cAt K j)) = some (decide (j = i)))
def g4 (K : PySem.W.Frag) : Bool := (List.range 12).all fun i => iniOk K (31 + i)
def g5 (K : PySem.W.Frag) : Bool := decide (PySem.W.nsIn K mainGlobals "WaveError" = some (some (.ref (wAt K)))) && (decide (PySem.W.specialIn K (.builtin "object.__class__") "__get__" = some (some (.builtin "getset_descriptor.__get__"))) &&
  (decide (PySem.W.takesIn K (.builtin "object.__class__") = some true) && (["len", "int", "abs", "sum", "all", "zip", "range", "enumerate", "isinstance", "tuple", "list", "bool", "ValueError"] : List String).all fun x => decide (PySem.W.nsIn K mainGlobals (PySem.Str.ofString x) = some none)))
theorem all_range {n : Nat} {f : Nat → Bool} (h : (List.range n).all f = true) {i : Nat} (hi : i < n) : f i = true :=
  List.all_eq_true.mp h i (List.mem_range.mpr hi)
theorem oex_cls {K : PySem.W.Frag} {C : Addr} (q : oexB K C = true) : ∃ nm q N bs bm sn sub ab col dd k0 k1 k2 k3 k5,
    K.lookup C = some (excClassObj nm q C N bs bm true sn sub ab col dd k0 k1 k2 k3 k5 "ValueError.__new__") ∧ PySem.HandSPX.refsVE bm = true := by
  unfold oexB at q
  split at q
  · rename_i dd cd sl ho
    split at q
    · rename_i C' bm k0 k1 k2 k3 n k5 hm hs
      simp only [Bool.and_eq_true, beq_iff_eq, Bool.not_eq_true'] at q
      obtain ⟨rfl, rfl, hdel, hdict, hv⟩ := q
      obtain ⟨nm, bs, mro, ns, qn, hd, sn, sub, ab, col, del⟩ := cd
      dsimp only at hm hdel hdict
      subst hm hdel hdict
      have e : sl = #[k0, k1, k2, k3, some (.builtin "ValueError.__new__"), k5] := by
        obtain ⟨l⟩ := sl
        simp only at hs
        rw [hs]
      subst e
      exact ⟨nm, qn, ns, bs, bm, sn, sub, ab, col, dd, k0, k1, k2, k3, k5, ho, hv⟩
    · cases q
  · cases q
section
variable {K : PySem.W.Frag} {mg : Str → Option Value} {h : Heap}
theorem cls_of (X : K.In h) (G : h.Ns mainGlobals mg) (h1 : g1 K = true) (h2 : g2 K = true) (h3 : g3 K = true) (h4 : g4 K = true) (h5 : g5 K = true) : ClsT K mg (cAt K) (wAt K) := by
  unfold g5 at h5
  simp only [Bool.and_eq_true, decide_eq_true_eq] at h5
  obtain ⟨w1, w2, w3, w4⟩ := h5
  have hv : PySem.W.nsIn K mainGlobals "ValueError" = some none := of_decide_eq_true (List.all_eq_true.mp w4 "ValueError" (by decide))
  have a1 : ∀ i, i < 43 → _ := fun i hi => all_range h1 hi
  simp only [Bool.and_eq_true, decide_eq_true_eq, clsOk] at a1
  exact {
    g := fun i hi => PySem.W.mg_of X G (a1 i hi).1
    gW := PySem.W.mg_of X G w1
    gV := PySem.W.mg_none_of X G hv
    ex := fun i hi => ⟨(a1 i hi).2.2.1, (a1 i hi).2.2.2.1, (a1 i hi).2.2.2.2.1, (a1 i hi).2.2.2.2.2.1, (a1 i hi).2.2.2.2.2.2.1, w2, w3, (a1 i hi).2.2.2.2.2.2.2.1⟩
    kp := fun i hi => (a1 i hi).2.1
    no := fun i hi => all_range h2 hi
    kit := fun i j hi hj => of_decide_eq_true (all_range (all_range h3 hi) hj)
    kitW := fun i hi => (a1 i hi).2.2.2.2.2.2.2.2.1
    kitV := fun i hi => (a1 i hi).2.2.2.2.2.2.2.2.2
    nof := fun i h31 hi => by
      have z := all_range (i := i - 31) h4 (by omega)
      rw [show 31 + (i - 31) = i by omega] at z
      simp only [Bool.and_eq_true, decide_eq_true_eq, iniOk] at z
      exact z.2.2.2 }
theorem blt_of (X : K.In h) (G : h.Ns mainGlobals mg) (h5 : g5 K = true) : Blt mg := by
  unfold g5 at h5
  simp only [Bool.and_eq_true, decide_eq_true_eq] at h5
  have w4 := fun (x : String) hx => PySem.W.mg_none_of X G (of_decide_eq_true (List.all_eq_true.mp h5.2.2.2 x hx))
  exact ⟨w4 "len" (by decide), w4 "int" (by decide), w4 "abs" (by decide), w4 "sum" (by decide), w4 "all" (by decide), w4 "zip" (by decide), w4 "range" (by decide), w4 "enumerate" (by decide), w4 "isinstance" (by decide), w4 "tuple" (by decide), w4 "list" (by decide), w4 "bool" (by decide)⟩
theorem oex_of (h1 : g1 K = true) (h4 : g4 K = true) {i : Nat} (h31 : 31 ≤ i) (hi : i < 43) : OexC K (cAt K i) := by
  have a1 := all_range h1 hi
  have z := all_range (i := i - 31) h4 (by omega)
  rw [show 31 + (i - 31) = i by omega] at z
  simp only [Bool.and_eq_true, decide_eq_true_eq, iniOk, clsOk] at z a1
  exact ⟨oex_cls z.1, z.2.1, a1.2.2.2.2.1, z.2.2.1, a1.2.1⟩
end

abbrev sIni31 : Stmt := inClass (top 33) 0
theorem scIni31 : FnScope ["self", "part"] ["self", "part"] (defScope sIni31) := ⟨rfl, rfl, rfl, by decide +kernel, rfl, by decide +kernel, by decide +kernel⟩
abbrev sIni32 : Stmt := inClass (top 34) 0
theorem scIni32 : FnScope ["self", "lot"] ["self", "lot"] (defScope sIni32) := ⟨rfl, rfl, rfl, by decide +kernel, rfl, by decide +kernel, by decide +kernel⟩
abbrev sIni33 : Stmt := inClass (top 35) 0
theorem scIni33 : FnScope ["self", "index"] ["self", "index"] (defScope sIni33) := ⟨rfl, rfl, rfl, by decide +kernel, rfl, by decide +kernel, by decide +kernel⟩
abbrev sIni34 : Stmt := inClass (top 36) 0
theorem scIni34 : FnScope ["self", "most"] ["self", "most"] (defScope sIni34) := ⟨rfl, rfl, rfl, by decide +kernel, rfl, by decide +kernel, by decide +kernel⟩
abbrev sIni35 : Stmt := inClass (top 37) 0
theorem scIni35 : FnScope ["self", "block"] ["self", "block"] (defScope sIni35) := ⟨rfl, rfl, rfl, by decide +kernel, rfl, by decide +kernel, by decide +kernel⟩
abbrev sIni36 : Stmt := inClass (top 38) 0
theorem scIni36 : FnScope ["self", "triple"] ["self", "triple"] (defScope sIni36) := ⟨rfl, rfl, rfl, by decide +kernel, rfl, by decide +kernel, by decide +kernel⟩
abbrev sIni37 : Stmt := inClass (top 39) 0
theorem scIni37 : FnScope ["self", "other"] ["self", "other"] (defScope sIni37) := ⟨rfl, rfl, rfl, by decide +kernel, rfl, by decide +kernel, by decide +kernel⟩
abbrev sIni38 : Stmt := inClass (top 41) 0
theorem scIni38 : FnScope ["self", "line"] ["self", "line"] (defScope sIni38) := ⟨rfl, rfl, rfl, by decide +kernel, rfl, by decide +kernel, by decide +kernel⟩
abbrev sIni39 : Stmt := inClass (top 43) 0
theorem scIni39 : FnScope ["self", "which"] ["self", "which"] (defScope sIni39) := ⟨rfl, rfl, rfl, by decide +kernel, rfl, by decide +kernel, by decide +kernel⟩
abbrev sIni40 : Stmt := inClass (top 44) 0
theorem scIni40 : FnScope ["self", "row"] ["self", "row"] (defScope sIni40) := ⟨rfl, rfl, rfl, by decide +kernel, rfl, by decide +kernel, by decide +kernel⟩
abbrev sIni41 : Stmt := inClass (top 40) 0
theorem scIni41 : FnScope ["self", "other"] ["self", "other"] (defScope sIni41) := ⟨rfl, rfl, rfl, by decide +kernel, rfl, by decide +kernel, by decide +kernel⟩
abbrev sIni42 : Stmt := inClass (top 42) 0
theorem scIni42 : FnScope ["self", "line"] ["self", "line"] (defScope sIni42) := ⟨rfl, rfl, rfl, by decide +kernel, rfl, by decide +kernel, by decide +kernel⟩
/-! ### the head: what is read off the run of the top -/
def dB : He.DefD := ⟨("_law_bag", none), "_law_bag", "_law_bag", defArgs sBag, defBody sBag, defScope sBag, [], []⟩
def dP : He.DefD := ⟨("_law_pick", none), "_law_pick", "_law_pick", defArgs sPick, defBody sPick, defScope sPick, [], []⟩
def dO : He.DefD := ⟨("_law_some", none), "_law_some", "_law_some", defArgs sSome, defBody sSome, defScope sSome, [], []⟩
def dI : He.DefD := ⟨("_law_is", none), "_law_is", "_law_is", defArgs sIs, defBody sIs, defScope sIs, [], []⟩
def dD : He.DefD := ⟨("_law_deep", none), "_law_deep", "_law_deep", defArgs sDeep, defBody sDeep, defScope sDeep, [], []⟩
def dF : He.DefD := ⟨("_law_flags", none), "_law_flags", "_law_flags", defArgs sFlags, defBody sFlags, defScope sFlags, [], []⟩
def dE : He.DefD := ⟨("_law_fields", none), "_law_fields", "_law_fields", defArgs sFields, defBody sFields, defScope sFields, [], []⟩
def dL : He.DefD := ⟨("law", none), "law", "law", defArgs sLaw, defBody sLaw, defScope sLaw, [], []⟩
def d31 : He.DefD := ⟨("BadBook", some "__init__"), "__init__", "BadBook.__init__", defArgs sIni31, defBody sIni31, defScope sIni31, [], []⟩
def d32 : He.DefD := ⟨("RingApart", some "__init__"), "__init__", "RingApart.__init__", defArgs sIni32, defBody sIni32, defScope sIni32, [], []⟩
def d33 : He.DefD := ⟨("BadRow", some "__init__"), "__init__", "BadRow.__init__", defArgs sIni33, defBody sIni33, defScope sIni33, [], []⟩
def d34 : He.DefD := ⟨("TooMany", some "__init__"), "__init__", "TooMany.__init__", defArgs sIni34, defBody sIni34, defScope sIni34, [], []⟩
def d35 : He.DefD := ⟨("NotRipe", some "__init__"), "__init__", "NotRipe.__init__", defArgs sIni35, defBody sIni35, defScope sIni35, [], []⟩
def d36 : He.DefD := ⟨("Late", some "__init__"), "__init__", "Late.__init__", defArgs sIni36, defBody sIni36, defScope sIni36, [], []⟩
def d37 : He.DefD := ⟨("Needed", some "__init__"), "__init__", "Needed.__init__", defArgs sIni37, defBody sIni37, defScope sIni37, [], []⟩
def d38 : He.DefD := ⟨("BadText", some "__init__"), "__init__", "BadText.__init__", defArgs sIni38, defBody sIni38, defScope sIni38, [], []⟩
def d39 : He.DefD := ⟨("BadList", some "__init__"), "__init__", "BadList.__init__", defArgs sIni39, defBody sIni39, defScope sIni39, [], []⟩
def d40 : He.DefD := ⟨("BadWriter", some "__init__"), "__init__", "BadWriter.__init__", defArgs sIni40, defBody sIni40, defScope sIni40, [], []⟩
def d41 : He.DefD := ⟨("Tied", some "__init__"), "__init__", "Tied.__init__", defArgs sIni41, defBody sIni41, defScope sIni41, [], []⟩
def d42 : He.DefD := ⟨("BadTale", some "__init__"), "__init__", "BadTale.__init__", defArgs sIni42, defBody sIni42, defScope sIni42, [], []⟩
def fnL : List He.DefD := [dB, dP, dO, dI, dD, dF, dE, dL, d31, d32, d33, d34, d35, d36, d37, d38, d39, d40, d41, d42]
def g6 (K : PySem.W.Frag) : Bool := ((["BadBook", "RingApart", "BadRow", "TooMany", "NotRipe", "Late", "Needed", "BadText", "BadList", "BadWriter", "Tied", "BadTale"] : List String).all fun x => decide (PySem.W.findIn K (.ref (He.ga K (PySem.Str.ofString x))) "__init__" = some (some (.ref (He.ma K (He.ga K (PySem.Str.ofString x)) "__init__")))) && decide (PySem.W.typeIn K (.ref (He.ma K (He.ga K (PySem.Str.ofString x)) "__init__")) = some (.type "function")))
def g7 (K : PySem.W.Frag) : Bool := ((["_law_bag", "_law_pick", "_law_some", "_law_is", "_law_deep", "_law_flags", "_law_fields", "law"] : List String).all fun x => decide (PySem.W.nsIn K mainGlobals (PySem.Str.ofString x) = some (some (.ref (He.ga K (PySem.Str.ofString x))))))
def exB (K : PySem.W.Frag) : Bool := g1 K && (g2 K && (g3 K && (g4 K && (g5 K && (g6 K && g7 K)))))
theorem fun_of {K : PySem.W.Frag} {x qual : Str} {st : Stmt} {f : Addr} {fd : FuncData} (F : FunD K x qual (defArgs st) (defBody st) (defScope st) [] [] f fd) : Fun K x qual st f fd := by
  obtain ⟨oc, od, dV, kV, doc, pm, an, cdv, ct, osl, rfl, lk, hcd, hD, hK⟩ := F.ex
  rcases hD with ⟨_, rfl⟩ | ⟨e, _⟩
  · exact ⟨⟨oc, od, kV, doc, pm, an, cdv, ct, osl, rfl, lk, hcd⟩, F.kp⟩
  · exact absurd rfl e
theorem all_mk {l : PySem.W.OpenLaw} {w : World} {K : PySem.W.Frag} {h : Heap} {mg : Str → Option Value} {fa : Addr} (X : K.In h) (G : h.Ns mainGlobals mg) (hfa : mg "law" = some (.ref fa)) (c : He.SaysX [] fnL [] [] exB w h K) :
    ∃ fd : FuncData, (∀ (s : Shared) (v : Value), BindsTo s fd ⟨[v], []⟩ [("_law_script", v)]) ∧ ∀ base : Heap, K.In base → base.Ns mainGlobals mg → FnOk l.prog w K mg base CX0 31 fa fd ["_law_script"] (spLaw K) := by
  have ex := c.more
  unfold exB at ex
  simp only [Bool.and_eq_true] at ex
  obtain ⟨h1, h2, h3, h4, h5, h6, h7⟩ := ex
  have gm := fun (x : String) hx => PySem.W.mg_of X G (of_decide_eq_true (List.all_eq_true.mp h7 x hx))
  have gi := fun (x : String) hx => (Bool.and_eq_true_iff.mp (List.all_eq_true.mp h6 x hx))
  have e := hfa.symm.trans (gm "law" (by decide))
  cases e
  have T := cls_of X G h1 h2 h3 h4 h5
  have B := blt_of X G h5
  have D := c.t.d
  obtain ⟨fdB, EB⟩ := D.def_ 0 (d := dB) rfl
  have bB := FunD.bindsN (ps := ["_law_script"]) EB fun _ _ _ _ _ _ us hl => match us, hl with | [_], _ => rfl
  have FB := fun_of (st := sBag) EB
  obtain ⟨fdP, EP⟩ := D.def_ 1 (d := dP) rfl
  have bP := FunD.bindsN (ps := ["_law_bag_here", "_law_many"]) EP fun _ _ _ _ _ _ us hl => match us, hl with | [_, _], _ => rfl
  have FP := fun_of (st := sPick) EP
  obtain ⟨fdO, EO⟩ := D.def_ 2 (d := dO) rfl
  have bO := FunD.bindsN (ps := ["_law_bag_here", "_law_things"]) EO fun _ _ _ _ _ _ us hl => match us, hl with | [_, _], _ => rfl
  have FO := fun_of (st := sSome) EO
  obtain ⟨fdI, EI⟩ := D.def_ 3 (d := dI) rfl
  have bI := FunD.bindsN (ps := ["_law_thing", "_law_due"]) EI fun _ _ _ _ _ _ us hl => match us, hl with | [_, _], _ => rfl
  have FI := fun_of (st := sIs) EI
  obtain ⟨fdD, ED⟩ := D.def_ 4 (d := dD) rfl
  have bD := FunD.bindsN (ps := []) ED fun _ _ _ _ _ _ us hl => match us, hl with | [], _ => rfl
  have FD := fun_of (st := sDeep) ED
  obtain ⟨fdF, EF⟩ := D.def_ 5 (d := dF) rfl
  have bF := FunD.bindsN (ps := ["_law_e"]) EF fun _ _ _ _ _ _ us hl => match us, hl with | [_], _ => rfl
  have FF := fun_of (st := sFlags) EF
  obtain ⟨fdE, EE⟩ := D.def_ 6 (d := dE) rfl
  have bE := FunD.bindsN (ps := ["_law_e"]) EE fun _ _ _ _ _ _ us hl => match us, hl with | [_], _ => rfl
  have FE := fun_of (st := sFields) EE
  obtain ⟨fdL, EL⟩ := D.def_ 7 (d := dL) rfl
  have bL := FunD.bindsN (ps := ["_law_script"]) EL fun _ _ _ _ _ _ us hl => match us, hl with | [_], _ => rfl
  have FL := fun_of (st := sLaw) EL
  obtain ⟨fd31, E31⟩ := D.def_ 8 (d := d31) rfl
  have b31 := FunD.bindsN (ps := ["self", "part"]) E31 fun _ _ _ _ _ _ us hl => match us, hl with | [_, _], _ => rfl
  have F31 := fun_of (st := sIni31) E31
  obtain ⟨fd32, E32⟩ := D.def_ 9 (d := d32) rfl
  have b32 := FunD.bindsN (ps := ["self", "lot"]) E32 fun _ _ _ _ _ _ us hl => match us, hl with | [_, _], _ => rfl
  have F32 := fun_of (st := sIni32) E32
  obtain ⟨fd33, E33⟩ := D.def_ 10 (d := d33) rfl
  have b33 := FunD.bindsN (ps := ["self", "index"]) E33 fun _ _ _ _ _ _ us hl => match us, hl with | [_, _], _ => rfl
  have F33 := fun_of (st := sIni33) E33
  obtain ⟨fd34, E34⟩ := D.def_ 11 (d := d34) rfl
  have b34 := FunD.bindsN (ps := ["self", "most"]) E34 fun _ _ _ _ _ _ us hl => match us, hl with | [_, _], _ => rfl
  have F34 := fun_of (st := sIni34) E34
  obtain ⟨fd35, E35⟩ := D.def_ 12 (d := d35) rfl
  have b35 := FunD.bindsN (ps := ["self", "block"]) E35 fun _ _ _ _ _ _ us hl => match us, hl with | [_, _], _ => rfl
  have F35 := fun_of (st := sIni35) E35
  obtain ⟨fd36, E36⟩ := D.def_ 13 (d := d36) rfl
  have b36 := FunD.bindsN (ps := ["self", "triple"]) E36 fun _ _ _ _ _ _ us hl => match us, hl with | [_, _], _ => rfl
  have F36 := fun_of (st := sIni36) E36
  obtain ⟨fd37, E37⟩ := D.def_ 14 (d := d37) rfl
  have b37 := FunD.bindsN (ps := ["self", "other"]) E37 fun _ _ _ _ _ _ us hl => match us, hl with | [_, _], _ => rfl
  have F37 := fun_of (st := sIni37) E37
  obtain ⟨fd38, E38⟩ := D.def_ 15 (d := d38) rfl
  have b38 := FunD.bindsN (ps := ["self", "line"]) E38 fun _ _ _ _ _ _ us hl => match us, hl with | [_, _], _ => rfl
  have F38 := fun_of (st := sIni38) E38
  obtain ⟨fd39, E39⟩ := D.def_ 16 (d := d39) rfl
  have b39 := FunD.bindsN (ps := ["self", "which"]) E39 fun _ _ _ _ _ _ us hl => match us, hl with | [_, _], _ => rfl
  have F39 := fun_of (st := sIni39) E39
  obtain ⟨fd40, E40⟩ := D.def_ 17 (d := d40) rfl
  have b40 := FunD.bindsN (ps := ["self", "row"]) E40 fun _ _ _ _ _ _ us hl => match us, hl with | [_, _], _ => rfl
  have F40 := fun_of (st := sIni40) E40
  obtain ⟨fd41, E41⟩ := D.def_ 18 (d := d41) rfl
  have b41 := FunD.bindsN (ps := ["self", "other"]) E41 fun _ _ _ _ _ _ us hl => match us, hl with | [_, _], _ => rfl
  have F41 := fun_of (st := sIni41) E41
  obtain ⟨fd42, E42⟩ := D.def_ 19 (d := d42) rfl
  have b42 := FunD.bindsN (ps := ["self", "line"]) E42 fun _ _ _ _ _ _ us hl => match us, hl with | [_, _], _ => rfl
  have F42 := fun_of (st := sIni42) E42
  have bz := FunD.bindsA (ps := ["_law_script"]) EL fun _ _ _ _ _ _ us hl => match us, hl with | [_], _ => rfl
  refine ⟨fdL, fun s v => bz s [v] rfl, fun base _ _ => ?_⟩
  have N : Inits l.prog w K mg base (cAt K) := fun i h31 hi => by
    refine ⟨oex_of h1 h4 h31 hi, ?_⟩
    have hc : i = 31 ∨ i = 32 ∨ i = 33 ∨ i = 34 ∨ i = 35 ∨ i = 36 ∨ i = 37 ∨ i = 38 ∨ i = 39 ∨ i = 40 ∨ i = 41 ∨ i = 42 := by omega
    rcases hc with rfl | rfl | rfl | rfl | rfl | rfl | rfl | rfl | rfl | rfl | rfl | rfl
    · exact ⟨_, _, of_decide_eq_true (gi "BadBook" (by decide)).1, of_decide_eq_true (gi "BadBook" (by decide)).2, ok_init rfl scIni31 F31 (oex_of h1 h4 (i := 31) (by decide) (by decide)) (T.nof 31 (by decide) (by decide)) (by decide) (by decide), b31⟩
    · exact ⟨_, _, of_decide_eq_true (gi "RingApart" (by decide)).1, of_decide_eq_true (gi "RingApart" (by decide)).2, ok_init rfl scIni32 F32 (oex_of h1 h4 (i := 32) (by decide) (by decide)) (T.nof 32 (by decide) (by decide)) (by decide) (by decide), b32⟩
    · exact ⟨_, _, of_decide_eq_true (gi "BadRow" (by decide)).1, of_decide_eq_true (gi "BadRow" (by decide)).2, ok_init rfl scIni33 F33 (oex_of h1 h4 (i := 33) (by decide) (by decide)) (T.nof 33 (by decide) (by decide)) (by decide) (by decide), b33⟩
    · exact ⟨_, _, of_decide_eq_true (gi "TooMany" (by decide)).1, of_decide_eq_true (gi "TooMany" (by decide)).2, ok_init rfl scIni34 F34 (oex_of h1 h4 (i := 34) (by decide) (by decide)) (T.nof 34 (by decide) (by decide)) (by decide) (by decide), b34⟩
    · exact ⟨_, _, of_decide_eq_true (gi "NotRipe" (by decide)).1, of_decide_eq_true (gi "NotRipe" (by decide)).2, ok_init rfl scIni35 F35 (oex_of h1 h4 (i := 35) (by decide) (by decide)) (T.nof 35 (by decide) (by decide)) (by decide) (by decide), b35⟩
    · exact ⟨_, _, of_decide_eq_true (gi "Late" (by decide)).1, of_decide_eq_true (gi "Late" (by decide)).2, ok_init rfl scIni36 F36 (oex_of h1 h4 (i := 36) (by decide) (by decide)) (T.nof 36 (by decide) (by decide)) (by decide) (by decide), b36⟩
    · exact ⟨_, _, of_decide_eq_true (gi "Needed" (by decide)).1, of_decide_eq_true (gi "Needed" (by decide)).2, ok_init rfl scIni37 F37 (oex_of h1 h4 (i := 37) (by decide) (by decide)) (T.nof 37 (by decide) (by decide)) (by decide) (by decide), b37⟩
    · exact ⟨_, _, of_decide_eq_true (gi "BadText" (by decide)).1, of_decide_eq_true (gi "BadText" (by decide)).2, ok_init rfl scIni38 F38 (oex_of h1 h4 (i := 38) (by decide) (by decide)) (T.nof 38 (by decide) (by decide)) (by decide) (by decide), b38⟩
    · exact ⟨_, _, of_decide_eq_true (gi "BadList" (by decide)).1, of_decide_eq_true (gi "BadList" (by decide)).2, ok_init rfl scIni39 F39 (oex_of h1 h4 (i := 39) (by decide) (by decide)) (T.nof 39 (by decide) (by decide)) (by decide) (by decide), b39⟩
    · exact ⟨_, _, of_decide_eq_true (gi "BadWriter" (by decide)).1, of_decide_eq_true (gi "BadWriter" (by decide)).2, ok_init rfl scIni40 F40 (oex_of h1 h4 (i := 40) (by decide) (by decide)) (T.nof 40 (by decide) (by decide)) (by decide) (by decide), b40⟩
    · exact ⟨_, _, of_decide_eq_true (gi "Tied" (by decide)).1, of_decide_eq_true (gi "Tied" (by decide)).2, ok_init rfl scIni41 F41 (oex_of h1 h4 (i := 41) (by decide) (by decide)) (T.nof 41 (by decide) (by decide)) (by decide) (by decide), b41⟩
    · exact ⟨_, _, of_decide_eq_true (gi "BadTale" (by decide)).1, of_decide_eq_true (gi "BadTale" (by decide)).2, ok_init rfl scIni42 F42 (oex_of h1 h4 (i := 42) (by decide) (by decide)) (T.nof 42 (by decide) (by decide)) (by decide) (by decide), b42⟩
  exact ok_law FL B T N FB bB (gm "_law_bag" (by decide)) (ok_bag FB B) FO bO (gm "_law_some" (by decide)) (ok_some FO B FP bP (gm "_law_pick" (by decide))) FD bD (gm "_law_deep" (by decide)) (ok_deep FD B) FF bF (gm "_law_flags" (by decide)) (ok_flags FF B T) FE bE (gm "_law_fields" (by decide)) (ok_fields FE B T) FI bI (gm "_law_is" (by decide)) (is_all FI B bI (gm "_law_is" (by decide)))
def namesA : List PySem.Str := ["WaveError", "NoChange", "NoLot", "NoBlock", "NoStanding", "SameBlock", "BadSizes", "NoField", "NoWorth", "NoNeeds", "NotWaiting", "NoNumbers", "NotTwo", "NoNumber", "NoOrder", "NoRow", "NoRule", "BadBlocks", "NotWilling", "NoLog", "BadSlots", "NoWord", "Full", "NoRecord", "SameRecord", "NoSlot", "NoLine", "NoLines", "KnownNeed", "InRing"]
def namesB : List PySem.Str := ["NoNeed", "NothingDone", "BadBook", "RingApart", "BadRow", "TooMany", "NotRipe", "Late", "Needed", "Tied", "BadText", "BadTale", "BadList", "BadWriter", "_law_bag", "_law_pick", "_law_some", "_law_is", "_law_deep", "_law_flags", "_law_fields"]
abbrev R : PySem.W.OpenRow := PySem.W.OpenLaw.row PySem.Challenge.rw_ripewaves_k00_errors_and_their_fields
abbrev hk : PySem.W.Hook := He.hookX 6 [] fnL [] [] exB
def obT (s : PySem.W.SharedT) : He.AlX := He.obsX 6 [] fnL [] [] exB (HandSHeadRun.getT s)
theorem obT_eq (s : PySem.W.SharedT) : obT s = hk.obs s.abs := He.obsX_eq (HandSHeadRun.getT_eq s)
theorem run (w : World) : HandSHeadRun.RunEq R (PySem.W.view R.prog [53]) hk obT 12000 (namesA ++ namesB) w := by
  intro os
  kernel_rfl
end Rip
open PySem PySem.W PySem.Calls PyProof.Rows
set_option maxHeartbeats 0 in
theorem PySem.Challenge.cw_ripewaves_k00_errors_and_their_fields_holds : PySem.Challenge.rw_ripewaves_k00_errors_and_their_fields.Holds := by
  w_on; o_law
  refine HandSHeadRun.head_any (r := Rip.R) (q := view Rip.R.prog [53]) (H := Rip.hk) (ob := Rip.obT) (M := 12000) (loose := Rip.namesA ++ Rip.namesB) (d := HandSHeadRun.topDef Rip.R.prog 53) (kwd := []) Rip.obT_eq
    (by kernel_rfl) (fun s => by kernel_rfl) Rip.run (by kernel_rfl) (by kernel_rfl) (by kernel_rfl) (by rfl) (by first | assumption | decide +kernel) (by decide +kernel) ⟨rfl, rfl, rfl, rfl, rfl, by decide +kernel⟩ ?hw ?hc
  case hw => w_witness2
  case hc =>
    refine L2.walk_ofE (l := PySem.Challenge.rw_ripewaves_k00_errors_and_their_fields) (n := 63) (k := 31) (x := "_law_script") (CX := L2.CX0) rfl (by decide) (by kernel_rfl) ⟨rfl, by decide, by decide⟩ ?F (fun _ _ _ _ z => z)
    intro w mg fa h Y G hmg0
    obtain ⟨K, KX, c⟩ := Y
    have hmg : mg ("law" : PySem.Str) = some (.ref fa) := by
      have e : (HandSHeadRun.topDef Rip.R.prog 53).name = ("law" : PySem.Str) := by kernel_rfl
      rw [← e]
      exact hmg0
    obtain ⟨fd, hb, hF⟩ := Rip.all_mk (l := PySem.Challenge.rw_ripewaves_k00_errors_and_their_fields) (w := w) KX G hmg c
    exact ⟨K, fd, Rip.spLaw K, KX, hb, fun H a ns hl _ hS => ⟨a, ns, rfl, hS, hl, fun _ => rfl⟩, hF⟩
