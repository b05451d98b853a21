import PyProof.Rows.All
import Wide.All
import OpenK.AllK
import Wide.FinOn
import PyProof.EqAt
import PyProof.EqKinds
import PyProof.TupleCall
import HandS.ForMost
import HandS.Exc
import HandS.IsInst
import HandS.ExcInit
import HandS.ExcIs
import HandS.WordsExc
import HandS.ExcOwn
import HandS.ExcValue
import HandS.ExcField
import HandS.Walk
import HandS.Zip
import HandS.More
import HandS.TupLe
import HandS.TupAny
import HandS.DictComp
import HandS.WideBits
import HandS.Conv
import HandS.SortRule
import HandS.SortInts
import HandS.TupMul
import HandS.Lambda
import HandS.EndTab
import HandS.Set
import HandS.SetFor
import HandS.Strs
import HandS.TryMany
import HandS.ExcInit
import KE.KRevSl
import HandS.Flow
import KE.KStateDown
import HandS.Defaults
import HandS.Head0
import HandS.Head1
import HandS.Head2
import HandS.HeadEnd
import HandS.HeadHook1
import HandS.HeadHook2
import HandS.HeadHook3
import HandS.HeadHook4
import PySem.Challenge.RW_ripewaves_k05_books_asked_amiss

set_option Elab.async false
set_option linter.all false
set_option maxRecDepth 100000
set_option maxHeartbeats 8000000
/-! The bag of picks: how it is made of the script, how a number is picked out of it, how a thing is. -/
namespace Rip
open PySem PySem.Spec PyProof.Rows L2
def top (i : Nat) : Stmt := PySem.Challenge.pw_ripewaves_k05_books_asked_amiss.main.body.getD i (.Pass ⟨0, 0, 0, 0⟩)
abbrev sBag : Stmt := top 31
abbrev sPick : Stmt := top 32
abbrev sSome : Stmt := top 33
/-! ### small things about heaps and lists -/
theorem same_upd {H : Hp} {p : Addr} {o : HO} (h : H p = none) : Same H (upd H p o) := fun b x e => by
  rw [upd_ne (ne_of_none e h)]
  exact e
theorem same_put {H H' : Hp} {p : Addr} {o : HO} (s : Same H H') (h : H p = none) : Same H (upd H' p o) := fun b x e => by
  rw [upd_ne (ne_of_none e h)]
  exact s _ _ e
theorem ints_cut {ns : List Int} {lo hi : Option Int} {x : V} (h : x ∈ cutV (ns.map V.int) lo hi) : ∃ n, x = .int n := by
  unfold cutV at h
  obtain ⟨n, _, e⟩ := List.mem_map.mp (List.mem_of_mem_drop (List.mem_of_mem_take h))
  exact ⟨n, e.symm⟩
theorem at_mem {α : Type} {xs : List α} {i : Nat} {x : α} (h : xs[i]? = some x) : x ∈ xs := List.mem_of_getElem? h
theorem at_lt {α : Type} {xs : List α} {i : Nat} {x : α} (h : xs[i]? = some x) : i < xs.length := (List.getElem?_eq_some_iff.mp h).1
theorem ite_ok {c : Prop} [Decidable c] {A B : Prop} (h1 : c → A) (h2 : ¬ c → B) : if decide c = true then A else B := by
  by_cases h : c
  · rw [if_pos (decide_eq_true h)]; exact h1 h
  · rw [if_neg (by simpa using h)]; exact h2 h
/-! ### the bag -/
/-- at b the bag, its list of great numbers at g -/
structure BagAt (H : Hp) (b g : Addr) : Prop where
  ob : ∃ (s c : Int) (al : V), H b = some (.lst [.int s, .int c, .ref g, al]) ∧ (al = .non ∨ ∃ m, al = .int m)
  gr : ∃ gs : List Int, H g = some (.lst (gs.map V.int))
theorem BagAt.ne {H : Hp} {b g : Addr} (h : BagAt H b g) : b ≠ g := by
  obtain ⟨s, c, al, hb, _⟩ := h.ob
  obtain ⟨gs, hg⟩ := h.gr
  refine ne_of hb hg fun e => ?_
  injection e with e
  match gs, e with
  | [_, _, _, _], e => simp at e
  | [_, _, _], e => simp at e
/-- what stood elsewhere stands -/
def SameB (b g : Addr) (H H' : Hp) : Prop := ∀ c o, H c = some o → c ≠ b → c ≠ g → H' c = some o
theorem SameB.refl (b g : Addr) (H : Hp) : SameB b g H H := fun _ _ h _ _ => h
theorem SameB.trans {b g : Addr} {H H1 H2 : Hp} (x : SameB b g H H1) (y : SameB b g H1 H2) : SameB b g H H2 := fun c o h n m => y c o (x c o h n m) n m
theorem SameB.of {b g : Addr} {H H1 : Hp} (x : Same H H1) : SameB b g H H1 := fun c o h _ _ => x c o h
theorem BagAt.same {H H' : Hp} {b g : Addr} (h : BagAt H b g) (x : Same H H') : BagAt H' b g := by
  obtain ⟨s, c, al, hb, ha⟩ := h.ob
  obtain ⟨gs, hg⟩ := h.gr
  exact ⟨⟨s, c, al, x _ _ hb, ha⟩, gs, x _ _ hg⟩
/-- the names of the builtins that stand -/
structure Blt (mg : Str → Option Value) : Prop where
  len : mg "len" = none
  int : mg "int" = none
  abs : mg "abs" = none
  sum : mg "sum" = none
  all : mg "all" = none
  zip : mg "zip" = none
  range : mg "range" = none
  enumerate : mg "enumerate" = none
  isinstance : mg "isinstance" = none
  tuple : mg "tuple" = none
  list : mg "list" = none
  bool : mg "bool" = none
section
variable {P : Program} {w : World} {K : PySem.W.Frag} {mg : Str → Option Value} {base : Heap}
def spBag (K : PySem.W.Frag) : Sp := fun vs H Q _ => ∃ (a : Addr) (ns : List Int), vs = [.ref a] ∧ SqL K H a (ns.map V.int) ∧ ns.length ≤ 63 ∧
  ∀ (b g : Addr) (H' : Hp), Same H H' → H b = none → H g = none → BagAt H' b g → Q (.ref b) H'
abbrev scBN : List Str := ["_law_script", "_law_seed", "_law_cell", "_law_great", "_law_always"]
theorem scB : FnScope scBN ["_law_script"] (defScope sBag) := ⟨rfl, rfl, rfl, by decide +kernel, rfl, by decide +kernel, by decide +kernel⟩
set_option pp.proofs false in
theorem ok_bag {f : Addr} {fd : FuncData} (F : Fun K "_law_bag" "_law_bag" sBag f fd) (T : Blt mg) : FnOk P w K mg base CX0 1 f fd ["_law_script"] (spBag K) := by
  refine F.ok scB (fun vs H Q E h => ?_) (fun cdv A outer s H vs Q E hr h => ?_)
  · obtain ⟨a, ns, rfl, _⟩ := h
    rfl
  · obtain ⟨a, ns, rfl, hS, hlen, q⟩ := h
    refine ⟨_,
      (pss_cons (ps_set (i := 1) scB.nd rfl (.inl rfl) (pe_op op_add pe_int (pe_callB call_len_seq (by rfl) T.len PySem.boot_len (pa_cons (pv 0) pa_nil))))
      (pss_cons (ps_for PassesOwn.never rfl (pi_list (pe_slice sl_list (pv 0) po_none (po_some pe_int))) (pg_name (i := 2) scB.nd rfl (.inl rfl))
        (pss_one (ps_set (i := 1) scB.nd rfl (.inl rfl) (pe_op op_mod (pe_callTy call_int1 (by rfl) T.int PyProof.Rows.boot_int (pa_cons (pe_op op_add (pe_op op_add (pe_op op_mul (pv 1) pe_int) (pe_op op_mod (pe_callTy call_int1 (by rfl) T.int PyProof.Rows.boot_int (pa_cons (pv 2) pa_nil)) pe_int)) pe_int) pa_nil)) pe_int))))
      (pss_cons (ps_setLc (i := 3) (own := [("_law_cell", 2)]) (g := (gName 2)) (tt := _) rfl scB.nd rfl rfl (sw_true rfl rfl rfl (by decide +kernel)) (pi_list (pe_slice sl_list (pv 0) po_none (po_some pe_int))) (blkOk_by (own := [("_law_cell", 2)]) (N := scBN) (sc := defScope sBag) (by decide +kernel)) (fun _ _ _ _ _ => (pg_name (i := 2) scB.nd rfl (.inl rfl))) (fun _ _ _ _ _ => (pts_one (pt_cmpR op_ge (pe_callB call_abs (by rfl) T.abs PyProof.Rows.boot_abs (pa_cons (pe_callTy call_int1 (by rfl) T.int PyProof.Rows.boot_int (pa_cons (pv 2) pa_nil)) pa_nil)) (pe_op op_pow pe_int pe_int) (nomark _)))) (fun _ _ _ _ _ => (pe_callB call_abs (by rfl) T.abs PyProof.Rows.boot_abs (pa_cons (pe_callTy call_int1 (by rfl) T.int PyProof.Rows.boot_int (pa_cons (pv 2) pa_nil)) pa_nil))))
      (pss_cons (ps_set (i := 4) scB.nd rfl (.inl rfl) pe_non)
      (pss_cons (ps_if (pw_and (pt_cmpR op_lt (pe_callB call_len_seq (by rfl) T.len PySem.boot_len (pa_cons (pv 0) pa_nil)) pe_int (nomark _)) (pw_and1 (pt_cmpR op_eq (pe_callB call_len_seq (by rfl) T.len PySem.boot_len (pa_cons (pv 3) pa_nil)) pe_int (nomark _)))).pt
        (pss_one (ps_set (i := 4) scB.nd rfl (.inl rfl) (pe_callB call_abs (by rfl) T.abs PyProof.Rows.boot_abs (pa_cons (pe_callB (cr_sum rfl) (by rfl) T.sum PyProof.Rows.boot_sum (pa_cons (pe_lc (own := [("_law_cell", 2)]) (g := (gName 2)) (tt := tYes) rfl scB.nd (pi_list (pv 0)) (blkOk_by (own := [("_law_cell", 2)]) (N := scBN) (sc := defScope sBag) (by decide +kernel)) (fun _ _ _ _ _ => (pg_name (i := 2) scB.nd rfl (.inl rfl))) (fun _ _ _ _ _ => pts_nil) (fun _ _ _ _ _ => (pe_callTy call_int1 (by rfl) T.int PyProof.Rows.boot_int (pa_cons (pv 2) pa_nil)))) pa_nil)) pa_nil)))) pss_nil)
      (pss_one (ps_ret (pe_lst (pa_cons (pv 1) (pa_cons pe_int (pa_cons (pv 3) (pa_cons (pv 4) pa_nil)))))))))))), ?_⟩
    -- the seed's start
    refine ⟨_, rfl, a, _, rfl, .inl hS, _, _, rfl, rfl, ?_⟩
    -- the loop
    refine ⟨_, rfl, 63, rfl, a, _, rfl, hS, fun c nc => ?_⟩
    have s1 : Same H (upd H c (.lst (cutV (ns.map V.int) none (some 63)))) := same_upd nc
    refine ⟨c, rfl, ⟨_, .inl (.inl upd_same)⟩, for_list (K := K) (a := c) (xs := cutV (ns.map V.int) none (some 63)) (fun i σ H2 => ∃ (s : Int) (v : Option V), σ = [some (.ref a), some (.int s), v, none, none] ∧ Same H H2 ∧ H2 c = some (.lst (cutV (ns.map V.int) none (some 63))))
      ⟨_, none, rfl, s1, upd_same⟩ (fun i σ H2 _ ⟨_, _, _, _, e⟩ => .inl (.inl e)) ?_ ?_⟩
    · rintro i y σ H2 hi ⟨s, v, rfl, s2, ec⟩
      obtain ⟨n, rfl⟩ := ints_cut (at_mem hi)
      exact ⟨_, rfl, _, _, rfl, rfl, .inr ⟨by decide, by decide⟩, _, rfl, .inl ⟨n, rfl, _, _, rfl, rfl, (by show (0 : Int) < 1000003; decide), _, _, rfl, rfl, _, _, rfl, rfl, .inl ⟨_, rfl, _, _, rfl, rfl, (by show (0 : Int) < 2147483647; decide), _, _, rfl, s2, ec⟩⟩⟩
    · rintro σ H2 ⟨s, v, rfl, s2, ec⟩
      -- the great ones
      refine ⟨_, rfl, 63, rfl, a, _, rfl, s2.seq hS, fun c2 nc2 => ?_⟩
      refine ⟨c2, rfl, ⟨_, .inl (.inl upd_same)⟩, fun D nD => ?_⟩
      have n2 : D ≠ c2 := fun e => by
        rw [e, upd_same] at nD
        cases nD
      have sD : Same H2 (upd (upd H2 c2 (.lst (cutV (ns.map V.int) none (some 63)))) D (.lst [])) := (same_upd nc2).trans (same_upd nD)
      have hl : (cutV (ns.map V.int) none (some 63)).length ≤ 63 := Nat.le_trans (cutV_length _ _ _) (by rw [List.length_map]; exact hlen)
      refine lc_list (K := K) (a := c2) (xs := cutV (ns.map V.int) none (some 63)) (fun i H3 => Same H2 H3 ∧ H3 c2 = some (.lst (cutV (ns.map V.int) none (some 63))) ∧ ∃ gs : List Int, H3 D = some (.lst (gs.map V.int)) ∧ gs.length ≤ i)
        ⟨sD, by rw [upd_ne n2.symm, upd_same], [], upd_same, Nat.zero_le _⟩ (fun i H3 _ ⟨_, e, _⟩ => .inl (.inl e)) ?_ ?_
      · rintro i y H3 hi ⟨s3, e3, gs, eD, hg⟩
        have hi' := at_lt hi
        obtain ⟨n, rfl⟩ := ints_cut (at_mem hi)
        refine ⟨rfl, _, rfl, .inl ⟨n, rfl, _, rfl, _, _, rfl, rfl, ⟨by decide, by decide, by decide⟩, _, _, rfl, rfl, _, rfl, ?_⟩⟩
        have app : ∀ (z : Int) (y : V), y = V.int z → Same H2 (upd H3 D (.lst (gs.map V.int ++ [y]))) ∧ upd H3 D (.lst (gs.map V.int ++ [y])) c2 = some (.lst (cutV (ns.map V.int) none (some 63))) ∧ ∃ gs' : List Int, upd H3 D (.lst (gs.map V.int ++ [y])) D = some (.lst (gs'.map V.int)) ∧ gs'.length ≤ i + 1 := fun z y ey => by
          subst ey
          exact ⟨same_put s3 ((same_upd nc2).free nD), by rw [upd_ne n2.symm]; exact e3, gs ++ [z], by rw [upd_same]; exact congrArg (fun l => some (HO.lst l)) (List.map_append (f := V.int) (l₁ := gs) (l₂ := [z])).symm, by rw [List.length_append]; exact Nat.succ_le_succ hg⟩
        refine ite_ok (fun _ => ?_) fun _ => ⟨s3, e3, gs, eD, by omega⟩
        exact ⟨_, rfl, .inl ⟨n, rfl, _, rfl, _, eD, (by rw [List.length_map]; exact small1000 (by omega)), app _ _ rfl⟩⟩
      · rintro H3 ⟨s3, e3, gs, eD, hg⟩
        have sH3 : Same H H3 := s2.trans s3
        have fin : ∀ (al : V) (H4 : Hp), (al = .non ∨ ∃ m, al = .int m) → Same H3 H4 → ∀ l : Addr, H4 l = none → Q (.ref l) (upd H4 l (.lst [.int s, .int 1, .ref D, al])) := fun al H4 ha s4 l nl => by
          have hD4 := s4 _ _ eD
          have nl3 : H3 l = none := s4.free nl
          have nlH : H l = none := sH3.free nl3
          have nlD : D ≠ l := ne_of_none hD4 nl
          exact q l D _ (same_put (sH3.trans s4) nlH) nlH (s2.free ((same_upd nc2).free nD)) ⟨⟨s, 1, al, upd_same, ha⟩, gs, by rw [upd_ne nlD]; exact hD4⟩
        refine ⟨_, rfl, a, _, rfl, .inl (sH3.seq hS), _, _, rfl, rfl, _, rfl, ite_ok (fun h1 => ?_) fun h1 => ?_⟩
        · refine ⟨_, rfl, D, _, rfl, .inl (.inl (.inl eD)), rfl, _, rfl, ite_ok (fun h2 => ?_) fun h2 => ?_⟩
          · refine ⟨_, rfl, a, rfl, ⟨_, sH3.seq hS⟩, fun D2 nD2 => ?_⟩
            refine lc_list (K := K) (a := a) (xs := ns.map V.int) (fun i H4 => Same H3 H4 ∧ ∃ ms : List Int, H4 D2 = some (.lst (ms.map V.int)) ∧ ms.length ≤ i)
              ⟨same_upd nD2, [], upd_same, Nat.zero_le _⟩ (fun i H4 _ ⟨s4, _⟩ => (sH3.trans s4).seq hS) ?_ ?_
            · rintro i y H4 hi ⟨s4, ms, eM, hm⟩
              have hi' := at_lt hi
              rw [List.length_map] at hi'
              obtain ⟨n, _, rfl⟩ := List.mem_map.mp (at_mem hi)
              exact ⟨rfl, _, rfl, .inl ⟨n, rfl, _, eM, (by rw [List.length_map]; exact small1000 (by omega)), same_put s4 nD2, ms ++ [n], by rw [upd_same]; exact congrArg (fun l => some (HO.lst l)) (List.map_append (f := V.int) (l₁ := ms) (l₂ := [n])).symm, by rw [List.length_append]; exact Nat.succ_le_succ hm⟩⟩
            · rintro H4 ⟨s4, ms, eM, hm⟩
              exact ⟨D2, ms, rfl, .inl (.inl eM), _, rfl, _, rfl, _, rfl, _, rfl, (by show 4 ≤ sizeLine; rw [sizeLine_eq]; decide), fin _ H4 (.inr ⟨_, rfl⟩) s4⟩
          · exact ⟨_, rfl, _, rfl, _, rfl, (by show 4 ≤ sizeLine; rw [sizeLine_eq]; decide), fin .non H3 (.inl rfl) (Same.refl _)⟩
        · exact ⟨_, rfl, _, rfl, _, rfl, (by show 4 ≤ sizeLine; rw [sizeLine_eq]; decide), fin .non H3 (.inl rfl) (Same.refl _)⟩
/-! ### a number picked: from 0 on, below m -/
def spPick : Sp := fun vs H Q _ => ∃ (b g : Addr) (m : Int), vs = [.ref b, .int m] ∧ BagAt H b g ∧ 0 < m ∧ m < 1073741824 ∧
  ∀ (r : Int) (H' : Hp), 0 ≤ r → r < m → BagAt H' b g → SameB b g H H' → Q (.int r) H'
abbrev scPN : List Str := ["_law_bag_here", "_law_many", "_law_great", "_law_digit", "_law_number"]
theorem scP : FnScope scPN ["_law_bag_here", "_law_many"] (defScope sPick) := ⟨rfl, rfl, rfl, by decide +kernel, rfl, by decide +kernel, by decide +kernel⟩
theorem mod_lo {x m : Int} (h : 0 < m) : 0 ≤ x % m := Int.emod_nonneg _ (by omega)
theorem mod_hi {x m : Int} (h : 0 < m) : x % m < m := Int.emod_lt_of_pos _ h
theorem ok_pick {f : Addr} {fd : FuncData} (F : Fun K "_law_pick" "_law_pick" sPick f fd) (T : Blt mg) : FnOk P w K mg base CX0 1 f fd ["_law_bag_here", "_law_many"] spPick := by
  refine F.ok scP (fun vs H Q E h => ?_) (fun cdv A outer s H vs Q E hr h => ?_)
  · obtain ⟨b, g, m, rfl, _⟩ := h
    rfl
  · obtain ⟨b, g, m, rfl, B, h0, h1, q⟩ := h
    obtain ⟨⟨s1, c1, al, hb, ha⟩, gs, hg⟩ := id B
    have bg : b ≠ g := B.ne
    refine ⟨_,
      (pss_cons (ps_if (pt_cmp (pc_notN (pe_ix ix_list (pv 0) pe_int (fun _ _ => rfl))))
        (pss_one (ps_ret (pe_op op_mod (pe_callTy call_int1 (by rfl) T.int PyProof.Rows.boot_int (pa_cons (pe_ix ix_list (pv 0) pe_int (fun _ _ => rfl)) pa_nil)) (pv 1)))) pss_nil)
      (pss_cons (ps_asg (pe_op op_add (pe_ix ix_list (pv 0) pe_int (fun _ _ => rfl)) pe_int) (pg_sub (pv 0) pe_int set_list))
      (pss_cons (ps_set (i := 2) scP.nd rfl (.inl rfl) (pe_ix ix_list (pv 0) pe_int (fun _ _ => rfl)))
      (pss_cons (ps_if (pt_cmpR op_gt (pe_callB call_len_seq (by rfl) T.len PySem.boot_len (pa_cons (pv 2) pa_nil)) pe_int (nomark _))
        (pss_cons (ps_set (i := 3) scP.nd rfl (.inl rfl) (pe_op op_mod (pe_callTy call_int1 (by rfl) T.int PyProof.Rows.boot_int (pa_cons (pe_ix ix_list (pv 2) pe_int (fun _ _ => rfl)) pa_nil)) (pv 1)))
        (pss_cons (ps_asg (pe_op op_fdiv (pe_callTy call_int1 (by rfl) T.int PyProof.Rows.boot_int (pa_cons (pe_ix ix_list (pv 2) pe_int (fun _ _ => rfl)) pa_nil)) (pv 1)) (pg_sub (pv 2) pe_int set_list))
        (pss_cons (ps_if (pt_cmpR op_eq (pe_ix ix_list (pv 2) pe_int (fun _ _ => rfl)) pe_int (nomark _))
          (pss_one (ps_expr (pe_bm PySem.F.plainAttrs_list PySem.F.slot_list_pop PySem.F.type_list_pop mt_popAt (pv 2) (pa_cons pe_int pa_nil)))) pss_nil)
        (pss_one (ps_ret (pv 3)))))) pss_nil)
      (pss_cons (ps_set (i := 4) scP.nd rfl (.inl rfl) (pe_op op_mod (pe_callTy call_int1 (by rfl) T.int PyProof.Rows.boot_int (pa_cons (pe_op op_mul (pe_op op_add (pe_ix ix_list (pv 0) pe_int (fun _ _ => rfl)) (pe_op op_mul pe_int (pe_ix ix_list (pv 0) pe_int (fun _ _ => rfl)))) pe_int) pa_nil)) pe_int))
      (pss_cons (ps_set (i := 4) scP.nd rfl (.inl rfl) (pe_op op_mod (pe_callTy call_int1 (by rfl) T.int PyProof.Rows.boot_int (pa_cons (pe_op op_mul (pv 4) (pe_op op_add (pe_op op_fdiv (pv 4) pe_int) pe_int)) pa_nil)) pe_int))
      (pss_cons (ps_set (i := 4) scP.nd rfl (.inl rfl) (pe_op op_mod (pe_callTy call_int1 (by rfl) T.int PyProof.Rows.boot_int (pa_cons (pe_op op_mul (pv 4) (pe_op op_add (pe_op op_fdiv (pv 4) pe_int) pe_int)) pa_nil)) pe_int))
      (pss_one (ps_ret (pe_op op_mod (pe_callTy call_int1 (by rfl) T.int PyProof.Rows.boot_int (pa_cons (pe_op op_fdiv (pv 4) pe_int) pa_nil)) (pv 1))))))))))), ?_⟩
    refine ⟨_, rfl, b, _, 3, al, rfl, rfl, .inl (.inl hb), rfl, _, rfl, ?_⟩
    rcases ha with rfl | ⟨z, rfl⟩
    · refine iteF ?_
      -- the count
      refine ⟨_, rfl, b, _, 1, _, rfl, rfl, .inl (.inl hb), rfl, _, _, rfl, rfl, _, rfl, b, _, 1, 1, rfl, rfl, hb, rfl, ?_⟩
      have hb2 : upd H b (.lst [.int s1, .int (c1 + 1), .ref g, .non]) b = some (.lst [.int s1, .int (c1 + 1), .ref g, .non]) := upd_same
      have hg2 : upd H b (.lst [.int s1, .int (c1 + 1), .ref g, .non]) g = some (.lst (gs.map V.int)) := by rw [upd_ne bg.symm]; exact hg
      have sb2 : SameB b g H (upd H b (.lst [.int s1, .int (c1 + 1), .ref g, .non])) := fun c o e n _ => by rw [upd_ne n]; exact e
      refine ⟨_, rfl, b, _, 2, _, rfl, rfl, .inl (.inl hb2), rfl, _, rfl, g, _, rfl, .inl (.inl (.inl hg2)), _, _, rfl, rfl, _, rfl, ite_ok (fun hz => ?_) fun hz => ?_⟩
      · cases gs with
        | nil => exact absurd hz (by show ¬ (0 : Int) < ((List.map V.int []).length : Int); simp)
        | cons n r =>
          refine ⟨_, rfl, g, _, 0, .int n, rfl, rfl, .inl (.inl hg2), at_of (j := 0) rfl rfl, .inl ⟨n, rfl, _, rfl, _, _, rfl, rfl, h0, ?_⟩⟩
          refine ⟨_, rfl, g, _, 0, .int n, rfl, rfl, .inl (.inl hg2), at_of (j := 0) rfl rfl, .inl ⟨n, rfl, _, rfl, _, _, rfl, rfl, ⟨h0, h1⟩, ?_⟩⟩
          refine ⟨_, rfl, g, _, 0, 0, rfl, rfl, hg2, (by unfold ixN; simp), ?_⟩
          have hb3 : ∀ o, upd (upd H b (.lst [.int s1, .int (c1 + 1), .ref g, .non])) g o b = some (.lst [.int s1, .int (c1 + 1), .ref g, .non]) := fun o => by rw [upd_ne bg]; exact hb2
          have sb3 : ∀ o, SameB b g H (upd (upd H b (.lst [.int s1, .int (c1 + 1), .ref g, .non])) g o) := fun o c u e n1 n2 => by rw [upd_ne n2, upd_ne n1]; exact e
          refine ⟨_, rfl, g, _, 0, .int (n / m), rfl, rfl, .inl (.inl upd_same), at_of (j := 0) rfl rfl, rfl, _, rfl, ite_ok (fun hd => ?_) fun hd => ?_⟩
          · refine ⟨_, rfl, .inl ⟨rfl, _, .inl (.inl upd_same)⟩, g, _, 0, 0, _, rfl, rfl, upd_same, by decide, by decide, (by unfold seqIndex?; simp), rfl, ?_⟩
            refine ⟨_, rfl, q _ _ (mod_lo h0) (mod_hi h0) ⟨⟨s1, c1 + 1, .non, ?_, .inl rfl⟩, r, ?_⟩ ?_⟩
            · rw [upd_upd]; exact hb3 _
            · exact upd_same
            · rw [upd_upd]; exact sb3 _
          · exact ⟨_, rfl, q _ _ (mod_lo h0) (mod_hi h0) ⟨⟨s1, c1 + 1, .non, hb3 _, .inl rfl⟩, (n / m) :: r, upd_same⟩ (sb3 _)⟩
      · -- the reckoned number
        refine ⟨_, rfl, b, _, 0, _, rfl, rfl, .inl (.inl hb2), rfl, _, rfl, b, _, 1, _, rfl, rfl, .inl (.inl hb2), rfl, _, _, rfl, rfl, .inl ⟨by decide, by decide⟩, _, _, rfl, rfl, _, _, rfl, rfl, .inr ⟨by decide, by decide⟩, .inl ⟨_, rfl, _, _, rfl, rfl, (by show (0 : Int) < 2147483647; decide), ?_⟩⟩
        generalize hx : ((s1 + 7919 * (c1 + 1)) * 48271) % 2147483647 = x
        have x0 : 0 ≤ x := by rw [← hx]; exact mod_lo (by decide)
        have x1 : x < 2147483647 := by rw [← hx]; exact mod_hi (by decide)
        refine ⟨_, rfl, _, rfl, _, _, rfl, rfl, ⟨by decide, by decide⟩, _, _, rfl, rfl, _, _, rfl, rfl, .inl ⟨by omega, by omega⟩, .inl ⟨_, rfl, _, _, rfl, rfl, (by show (0 : Int) < 2147483647; decide), ?_⟩⟩
        generalize hy : (x * (x / 1009 + 69621)) % 2147483647 = y
        have y0 : 0 ≤ y := by rw [← hy]; exact mod_lo (by decide)
        have y1 : y < 2147483647 := by rw [← hy]; exact mod_hi (by decide)
        refine ⟨_, rfl, _, rfl, _, _, rfl, rfl, ⟨by decide, by decide⟩, _, _, rfl, rfl, _, _, rfl, rfl, .inl ⟨by omega, by omega⟩, .inl ⟨_, rfl, _, _, rfl, rfl, (by show (0 : Int) < 2147483399; decide), ?_⟩⟩
        exact ⟨_, rfl, _, _, rfl, rfl, ⟨by decide, by decide⟩, .inl ⟨_, rfl, _, rfl, _, _, rfl, rfl, h0, q _ _ (mod_lo h0) (mod_hi h0) ⟨⟨s1, c1 + 1, .non, hb2, .inl rfl⟩, gs, hg2⟩ sb2⟩⟩
    · refine iteT ?_
      exact ⟨_, rfl, b, _, 3, _, rfl, rfl, .inl (.inl hb), rfl, .inl ⟨z, rfl, _, rfl, _, _, rfl, rfl, h0, q _ H (mod_lo h0) (mod_hi h0) B (SameB.refl _ _ _)⟩⟩
/-! ### a thing picked -/
def spSome : Sp := fun vs H Q _ => ∃ (b g t : Addr) (xs : List V), vs = [.ref b, .ref t] ∧ BagAt H b g ∧ H t = some (.lst xs) ∧ t ≠ b ∧ t ≠ g ∧ 0 < xs.length ∧ xs.length < 1073741824 ∧
  ∀ (x : V) (H' : Hp), x ∈ xs → BagAt H' b g → SameB b g H H' → Q x H'
abbrev scON : List Str := ["_law_bag_here", "_law_things"]
theorem scO : FnScope scON ["_law_bag_here", "_law_things"] (defScope sSome) := ⟨rfl, rfl, rfl, by decide +kernel, rfl, by decide +kernel, by decide +kernel⟩
theorem ok_some {f fP : Addr} {fd fdP : FuncData} (F : Fun K "_law_some" "_law_some" sSome f fd) (T : Blt mg) (FP : Fun K "_law_pick" "_law_pick" sPick fP fdP) (bP : Binds K fdP ["_law_bag_here", "_law_many"] []) (gP : mg "_law_pick" = some (.ref fP)) :
    FnOk P w K mg base CX0 2 f fd ["_law_bag_here", "_law_things"] spSome := by
  have GP : FnOk P w K mg base CX0 1 fP fdP ["_law_bag_here", "_law_many"] spPick := ok_pick FP T
  refine F.ok scO (fun vs H Q E h => ?_) (fun cdv A outer s H vs Q E hr h => ?_)
  · obtain ⟨b, g, t, xs, rfl, _⟩ := h
    rfl
  · obtain ⟨b, g, t, xs, rfl, B, ht, tb, tg, h0, h1, q⟩ := h
    refine ⟨_,
      (pss_one (ps_ret (pe_ix ix_list (pv 1) (pe_call GP hr (by rfl) gP FP.kp bP .nil pass0 (pa_cons (pv 0) (pa_cons (pe_callB call_len_seq (by rfl) T.len PySem.boot_len (pa_cons (pv 1) pa_nil)) pa_nil))) (fun _ _ => rfl)))), ?_⟩
    refine ⟨_, rfl, _, rfl, _, rfl, t, xs, rfl, .inl (.inl (.inl ht)), b, g, _, rfl, B, by omega, by omega, fun r H' r0 r1 B' sb => ?_⟩
    have hlt : r.toNat < xs.length := by omega
    exact ⟨t, xs, r, xs[r.toNat], rfl, rfl, .inl (.inl (sb t _ ht tb tg)), at_of (j := r.toNat) (by omega) (List.getElem?_eq_getElem hlt), q _ H' (List.getElem_mem hlt) B' sb⟩
end
end Rip

/-! Numbers, lots, masks: what the program's small functions tell of any object. -/
namespace Rip
open PySem PySem.Spec PyProof.Rows L2
/-! ### mathematics: masks -/
theorem or_xor_and (a : Nat) : ∀ b : Nat, (a ||| b) = (a ^^^ b) + (a &&& b) := by
  induction a using Nat.strongRecOn with
  | _ a ih =>
    intro b
    by_cases h : a = 0
    · subst h; simp
    · have := ih (a / 2) (by omega) (b / 2)
      have e1 : (a ||| b) / 2 = (a / 2 ||| b / 2) := Nat.or_div_two
      have e2 : (a ^^^ b) / 2 = (a / 2 ^^^ b / 2) := Nat.xor_div_two
      have e3 : (a &&& b) / 2 = (a / 2 &&& b / 2) := Nat.and_div_two
      have m1 := Nat.or_mod_two_eq_one (a := a) (b := b)
      have m2 := Nat.xor_mod_two_eq_one (a := a) (b := b)
      have m3 := Nat.and_mod_two_eq_one (a := a) (b := b)
      omega
/-- the place of the lowest bit -/
def lowI (m : Nat) : Nat := if h : m = 0 then 0 else if m % 2 = 1 then 0 else lowI (m / 2) + 1
termination_by m
theorem lowI_odd {m : Nat} (h : m % 2 = 1) : lowI m = 0 := by
  unfold lowI
  split
  · rfl
  · simp [h]
theorem lowI_even {m : Nat} (h0 : m ≠ 0) (h : m % 2 ≠ 1) : lowI m = lowI (m / 2) + 1 := by
  rw [lowI, dif_neg h0, if_neg h]
/-- m without its lowest bit -/
theorem low_and (m : Nat) : m ≠ 0 → (m &&& (m - 1)) + 2 ^ lowI m = m := by
  induction m using Nat.strongRecOn with
  | _ m ih =>
    intro h0
    have e3 : (m &&& (m - 1)) / 2 = (m / 2 &&& (m - 1) / 2) := Nat.and_div_two
    have m3 := Nat.and_mod_two_eq_one (a := m) (b := m - 1)
    by_cases h : m % 2 = 1
    · rw [lowI_odd h]
      have z : (m - 1) / 2 = m / 2 := by omega
      rw [z, Nat.and_self] at e3
      omega
    · have i := ih (m / 2) (by omega) (by omega)
      rw [lowI_even h0 h, Nat.pow_succ]
      have z : (m - 1) / 2 = m / 2 - 1 := by omega
      rw [z] at e3
      omega
theorem low_bit (m : Nat) : m ≠ 0 → m.testBit (lowI m) = true := by
  induction m using Nat.strongRecOn with
  | _ m ih =>
    intro h0
    by_cases h : m % 2 = 1
    · rw [lowI_odd h, Nat.testBit_zero]
      exact decide_eq_true h
    · rw [lowI_even h0 h, Nat.testBit_succ]
      exact ih (m / 2) (by omega) (by omega)
theorem low_least (m : Nat) : ∀ j, m.testBit j = true → lowI m ≤ j := by
  induction m using Nat.strongRecOn with
  | _ m ih =>
    intro j hj
    by_cases h0 : m = 0
    · subst h0; simp at hj
    by_cases h : m % 2 = 1
    · rw [lowI_odd h]; omega
    · cases j with
      | zero =>
        rw [Nat.testBit_zero] at hj
        exact absurd (of_decide_eq_true hj) h
      | succ j =>
        rw [lowI_even h0 h]
        rw [Nat.testBit_succ] at hj
        have := ih (m / 2) (by omega) j hj
        omega
theorem low_le {m : Nat} (h0 : m ≠ 0) : 2 ^ lowI m ≤ m := by
  have := low_and m h0
  omega
theorem two_pow_and {m i : Nat} (h : m.testBit i = true) : (m &&& 2 ^ i) = 2 ^ i := by
  apply Nat.eq_of_testBit_eq
  intro j
  rw [Nat.testBit_and, Nat.testBit_two_pow]
  by_cases e : i = j
  · subst e; simp [h]
  · simp [e]
theorem low_xor {m : Nat} (h0 : m ≠ 0) : (m ^^^ 2 ^ lowI m) = m - 2 ^ lowI m := by
  have h := low_bit m h0
  have a := two_pow_and h
  have o : (m ||| 2 ^ lowI m) = m := by
    apply Nat.eq_of_testBit_eq
    intro j
    rw [Nat.testBit_or, Nat.testBit_two_pow]
    by_cases e : lowI m = j
    · subst e; simp [h]
    · simp [e]
  have z := or_xor_and m (2 ^ lowI m)
  omega
/-- the lot that a mask tells -/
def lotOf (m : Nat) : List Nat := if h : m = 0 then [] else lowI m :: lotOf (m - 2 ^ lowI m)
termination_by m
decreasing_by
  have := Nat.two_pow_pos (lowI m)
  omega
theorem lotOf_zero : lotOf 0 = [] := by
  rw [lotOf, dif_pos rfl]
theorem lotOf_pos {m : Nat} (h : m ≠ 0) : lotOf m = lowI m :: lotOf (m - 2 ^ lowI m) := by
  rw [lotOf, dif_neg h]
theorem bit_less {m : Nat} (h0 : m ≠ 0) (j : Nat) : (m - 2 ^ lowI m).testBit j = (m.testBit j && decide (j ≠ lowI m)) := by
  rw [← low_xor h0, Nat.testBit_xor, Nat.testBit_two_pow]
  by_cases e : lowI m = j
  · subst e; simp [low_bit m h0]
  · have e' : j ≠ lowI m := fun z => e z.symm
    simp [e, e']
theorem mem_lotOf (m : Nat) : ∀ j, j ∈ lotOf m ↔ m.testBit j = true := by
  induction m using Nat.strongRecOn with
  | _ m ih =>
    intro j
    by_cases h0 : m = 0
    · subst h0; rw [lotOf_zero]; simp
    · have hp := Nat.two_pow_pos (lowI m)
      rw [lotOf_pos h0, List.mem_cons, ih _ (by omega), bit_less h0]
      by_cases e : j = lowI m
      · subst e; simp [low_bit m h0]
      · simp [e]
theorem asc_lotOf (m : Nat) : (lotOf m).Pairwise (· < ·) := by
  induction m using Nat.strongRecOn with
  | _ m ih =>
    by_cases h0 : m = 0
    · subst h0; rw [lotOf_zero]; exact .nil
    · have hp := Nat.two_pow_pos (lowI m)
      rw [lotOf_pos h0]
      refine .cons (fun j hj => ?_) (ih _ (by omega))
      rw [mem_lotOf, bit_less h0] at hj
      simp only [Bool.and_eq_true, decide_eq_true_eq] at hj
      have := low_least m j hj.1
      omega
/-- the mask of a lot -/
def maskOf (l : List Nat) : Nat := l.foldl (fun m i => m ||| 2 ^ i) 0
theorem mask_fold (l : List Nat) : ∀ (m j : Nat), (l.foldl (fun m i => m ||| 2 ^ i) m).testBit j = (m.testBit j || decide (j ∈ l)) := by
  induction l with
  | nil => intro m j; simp
  | cons i l ih =>
    intro m j
    rw [List.foldl_cons, ih, Nat.testBit_or, Nat.testBit_two_pow]
    by_cases e : i = j
    · subst e; simp
    · have e' : ¬ j = i := fun z => e z.symm
      simp [e, e']
theorem bit_maskOf (l : List Nat) (j : Nat) : (maskOf l).testBit j = decide (j ∈ l) := by
  unfold maskOf
  rw [mask_fold]
  simp
theorem asc_same : ∀ {l r : List Nat}, l.Pairwise (· < ·) → r.Pairwise (· < ·) → (∀ j, j ∈ l ↔ j ∈ r) → l = r
  | [], [], _, _, _ => rfl
  | [], y :: r, _, _, h => absurd ((h y).mpr List.mem_cons_self) (by simp)
  | x :: l, [], _, _, h => absurd ((h x).mp List.mem_cons_self) (by simp)
  | x :: l, y :: r, hl, hr, h => by
    have h1 := List.pairwise_cons.mp hl
    have h2 := List.pairwise_cons.mp hr
    have e : x = y := by
      have a := (h x).mp List.mem_cons_self
      have b := (h y).mpr List.mem_cons_self
      rcases List.mem_cons.mp a with a | a
      · exact a
      rcases List.mem_cons.mp b with b | b
      · exact b.symm
      have := h1.1 y b
      have := h2.1 x a
      omega
    subst e
    refine congrArg (x :: ·) (asc_same h1.2 h2.2 fun j => ⟨fun hj => ?_, fun hj => ?_⟩)
    · rcases List.mem_cons.mp ((h j).mp (List.mem_cons_of_mem _ hj)) with e | e
      · subst e; have := h1.1 j hj; omega
      · exact e
    · rcases List.mem_cons.mp ((h j).mpr (List.mem_cons_of_mem _ hj)) with e | e
      · subst e; have := h2.1 j hj; omega
      · exact e
theorem lot_mask {l : List Nat} (h : l.Pairwise (· < ·)) : lotOf (maskOf l) = l :=
  asc_same (asc_lotOf _) h fun j => by rw [mem_lotOf, bit_maskOf]; simp
theorem bor_nat (a b : Nat) : Builtin.bitOr (a : Int) (b : Int) = ((a ||| b : Nat) : Int) := by
  have h1 : decide (0 ≤ Builtin.bitNot (a : Int)) = false := by unfold Builtin.bitNot; simp; omega
  have h2 : decide (0 ≤ Builtin.bitNot (b : Int)) = false := by unfold Builtin.bitNot; simp; omega
  have h3 : ∀ c : Nat, (Builtin.bitNot (Builtin.bitNot (c : Int))).toNat = c := fun c => by unfold Builtin.bitNot; omega
  show Builtin.bitNot (match decide (0 ≤ Builtin.bitNot (a : Int)), decide (0 ≤ Builtin.bitNot (b : Int)) with
    | true, true => _ | true, false => _ | false, true => _ | false, false => _) = _
  rw [h1, h2, h3, h3]
  show Builtin.bitNot (Builtin.bitNot _) = _
  unfold Builtin.bitNot
  omega
theorem band_nat (a b : Nat) : Builtin.bitAnd (a : Int) (b : Int) = ((a &&& b : Nat) : Int) := by
  unfold Builtin.bitAnd
  rw [decide_eq_true (by omega : (0 : Int) ≤ a), decide_eq_true (by omega : (0 : Int) ≤ b)]
  rfl
theorem bxor_nat (a b : Nat) : Builtin.bitXor (a : Int) (b : Int) = ((a ^^^ b : Nat) : Int) := by
  unfold Builtin.bitXor
  rw [bor_nat, band_nat]
  have h := or_xor_and a b
  omega
theorem band_neg {m : Nat} (h0 : m ≠ 0) : Builtin.bitAnd (m : Int) (-(m : Int)) = ((2 ^ lowI m : Nat) : Int) := by
  unfold Builtin.bitAnd
  rw [decide_eq_true (by omega : (0 : Int) ≤ m), decide_eq_false (by omega : ¬ (0 : Int) ≤ -(m : Int))]
  have e : (Builtin.bitNot (-(m : Int))).toNat = m - 1 := by unfold Builtin.bitNot; omega
  show (m : Int) - (((m : Int).toNat &&& (Builtin.bitNot (-(m : Int))).toNat : Nat) : Int) = _
  rw [e, Int.toNat_natCast]
  have := low_and m h0
  omega
theorem bits_pow (i : Nat) : (Builtin.Int.intBits ((2 ^ i : Nat) : Int) : Int) - 1 = (i : Int) := by
  have h : (2 ^ i : Nat) ≠ 0 := by have := Nat.two_pow_pos i; omega
  have e : Builtin.Int.intBits ((2 ^ i : Nat) : Int) = i + 1 := by
    unfold Builtin.Int.intBits
    rw [if_neg (by simp only [beq_iff_eq]; omega), Int.natAbs_natCast, Nat.log2_two_pow]
  rw [e]
  omega
/-! ### what a thing's kind is -/
def isIB : V → Bool
  | .int _ => true | .bl _ => true
  | _ => false
def isBl : V → Bool
  | .bl _ => true
  | _ => false
/-- isinstance tells of v what it must: int, bool -/
structure Ob (K : PySem.W.Frag) (H : Hp) (v : V) : Prop where
  ty : ∃ t, TyX K H v t ∧ PySem.W.kitOne K t (.type "int") = some (isIB v) ∧ PySem.W.kitOne K t (.type "bool") = some (isBl v)
/-- .. and whether it is a tuple -/
structure ObT (K : PySem.W.Frag) (H : Hp) (v : V) (b : Bool) : Prop where
  ty : ∃ t, TyX K H v t ∧ PySem.W.kitOne K t (.type "tuple") = some b
theorem ob_int {K : PySem.W.Frag} {H : Hp} (i : Int) : Ob K H (.int i) := ⟨_, .base (.int i), kit_ty (show kitB "int" "int" = some true by decide +kernel), kit_ty (show kitB "int" "bool" = some false by decide +kernel)⟩
theorem ob_bl {K : PySem.W.Frag} {H : Hp} (x : Bool) : Ob K H (.bl x) := ⟨_, .base (.bl x), kit_ty (show kitB "bool" "int" = some true by decide +kernel), kit_ty (show kitB "bool" "bool" = some true by decide +kernel)⟩
theorem ob_non {K : PySem.W.Frag} {H : Hp} : Ob K H .non := ⟨_, .base .non, kit_ty (show kitB "NoneType" "int" = some false by decide +kernel), kit_ty (show kitB "NoneType" "bool" = some false by decide +kernel)⟩
theorem ob_str {K : PySem.W.Frag} {H : Hp} (x : Str) : Ob K H (.str x) := ⟨_, .base (.str x), kit_ty (show kitB "str" "int" = some false by decide +kernel), kit_ty (show kitB "str" "bool" = some false by decide +kernel)⟩
theorem ob_tup {K : PySem.W.Frag} {H : Hp} {a : Addr} {xs : List V} (h : H a = some (.tup xs)) : Ob K H (.ref a) := ⟨_, .base (.tup h), kit_ty (show kitB "tuple" "int" = some false by decide +kernel), kit_ty (show kitB "tuple" "bool" = some false by decide +kernel)⟩
theorem ob_lst {K : PySem.W.Frag} {H : Hp} {a : Addr} {xs : List V} (h : H a = some (.lst xs)) : Ob K H (.ref a) := ⟨_, .base (.lst h), kit_ty (show kitB "list" "int" = some false by decide +kernel), kit_ty (show kitB "list" "bool" = some false by decide +kernel)⟩
theorem ob_dct {K : PySem.W.Frag} {H : Hp} {a : Addr} {kvs : List (Key × V)} (h : H a = some (.dK kvs)) : Ob K H (.ref a) := ⟨_, .base (.dK h), kit_ty (show kitB "dict" "int" = some false by decide +kernel), kit_ty (show kitB "dict" "bool" = some false by decide +kernel)⟩
theorem obt_tup {K : PySem.W.Frag} {H : Hp} {a : Addr} {xs : List V} (h : H a = some (.tup xs)) : ObT K H (.ref a) true := ⟨_, .base (.tup h), kit_ty (by decide +kernel)⟩
/-- a number -/
def isNum : V → Bool
  | .int i => decide (0 ≤ i)
  | _ => false
def isBelow (n : Int) : V → Bool
  | .int i => decide (0 ≤ i ∧ i < n)
  | _ => false
section
variable {P : Program} {w : World} {K : PySem.W.Frag} {mg : Str → Option Value} {base : Heap}
abbrev s_isinteger : Stmt := top 7
abbrev s_isnum : Stmt := top 8
abbrev s_isbelow : Stmt := top 9
def spIsNum (K : PySem.W.Frag) : Sp := fun vs H Q _ => ∃ v, vs = [v] ∧ Ob K H v ∧ Q (.bl (isNum v)) H
abbrev scIsNumN : List Str := ["thing"]
theorem scIsNum : FnScope scIsNumN ["thing"] (defScope s_isnum) := ⟨rfl, rfl, rfl, by decide +kernel, rfl, by decide +kernel, by decide +kernel⟩
/-- is_number, and is_integer behind it -/
structure NumT (K : PySem.W.Frag) (mg : Str → Option Value) (f : Addr) (fd : FuncData) : Prop where
  F : Fun K "is_number" "is_number" s_isnum f fd
  I : ∃ fI fdI, Fun K "is_integer" "is_integer" s_isinteger fI fdI ∧ Binds K fdI ["thing"] [] ∧ mg "is_integer" = some (.ref fI)
theorem NumT.kp {f : Addr} {fd : FuncData} (h : NumT K mg f fd) : PySem.W.keepIn K (.ref f) = true := h.F.kp
def isIt : V → Bool
  | .int _ => true
  | _ => false
def spIsInteger (K : PySem.W.Frag) : Sp := fun vs H Q _ => ∃ v, vs = [v] ∧ Ob K H v ∧ Q (.bl (isIt v)) H
theorem scIsInteger : FnScope scIsNumN ["thing"] (defScope s_isinteger) := ⟨rfl, rfl, rfl, by decide +kernel, rfl, by decide +kernel, by decide +kernel⟩
theorem ok_isinteger {f : Addr} {fd : FuncData} (F : Fun K "is_integer" "is_integer" s_isinteger f fd) (B : Blt mg) : FnOk P w K mg base CX0 1 f fd ["thing"] (spIsInteger K) := by
  refine F.ok scIsInteger (fun vs H Q E h => ?_) (fun cdv A outer s H vs Q E hr h => ?_)
  · obtain ⟨v, rfl, _⟩ := h
    rfl
  · obtain ⟨v, rfl, ⟨t, ty, k1, k2⟩, q⟩ := h
    refine ⟨_, pss_one (ps_ret (pe_and (pe_callB call_isi (by rfl) B.isinstance PyProof.Rows.boot_isinstance (pa_cons (pv 0) (pa_cons (pe_bltn (v := .ty "int") (by rfl) B.int PyProof.Rows.boot_int rfl) pa_nil)))
      (pe_one (pe_not (pe_callB call_isi (by rfl) B.isinstance PyProof.Rows.boot_isinstance (pa_cons (pv 0) (pa_cons (pe_bltn (v := .ty "bool") (by rfl) B.bool PyProof.Rows.boot_bool rfl) pa_nil))))))), ?_⟩
    refine ⟨_, rfl, v, _, t, _, isIB v, rfl, .ty "int", ty, k1, _, rfl, ?_⟩
    cases v with
    | int i => exact iteT ⟨_, rfl, _, _, t, _, _, rfl, .ty "bool", ty, k2, _, rfl, q⟩
    | bl x => exact iteT ⟨_, rfl, _, _, t, _, _, rfl, .ty "bool", ty, k2, _, rfl, q⟩
    | non => exact iteF q
    | str x => exact iteF q
    | byt x => exact iteF q
    | flt x => exact iteF q
    | ref x => exact iteF q
    | ty x => exact iteF q
theorem ok_isnum {f : Addr} {fd : FuncData} (FN : NumT K mg f fd) (B : Blt mg) : FnOk P w K mg base CX0 2 f fd ["thing"] (spIsNum K) := by
  obtain ⟨F, fI, fdI, FI, bI, gI⟩ := FN
  have GI : FnOk P w K mg base CX0 1 fI fdI ["thing"] (spIsInteger K) := ok_isinteger FI B
  refine F.ok scIsNum (fun vs H Q E h => ?_) (fun cdv A outer s H vs Q E hr h => ?_)
  · obtain ⟨v, rfl, _⟩ := h
    rfl
  · obtain ⟨v, rfl, o, q⟩ := h
    refine ⟨_, pss_one (ps_ret (pe_and (pe_call GI hr (by rfl) gI FI.kp bI .nil pass0 (pa_cons (pv 0) pa_nil)) (pe_one (pe_cmpR op_ge (pv 0) pe_int (nomark _))))), ?_⟩
    refine ⟨_, rfl, v, rfl, o, _, rfl, ?_⟩
    cases v with
    | int i => exact iteT ⟨_, rfl, _, _, rfl, rfl, q⟩
    | bl x => exact iteF q
    | non => exact iteF q
    | str x => exact iteF q
    | byt x => exact iteF q
    | flt x => exact iteF q
    | ref x => exact iteF q
    | ty x => exact iteF q
def spIsBelow (K : PySem.W.Frag) : Sp := fun vs H Q _ => ∃ (n : Int) (v : V), vs = [.int n, v] ∧ Ob K H v ∧ Q (.bl (isBelow n v)) H
abbrev scIsBelowN : List Str := ["bound", "thing"]
theorem scIsBelow : FnScope scIsBelowN ["bound", "thing"] (defScope s_isbelow) := ⟨rfl, rfl, rfl, by decide +kernel, rfl, by decide +kernel, by decide +kernel⟩
theorem ok_isbelow {f fN : Addr} {fd fdN : FuncData} (F : Fun K "is_number_below" "is_number_below" s_isbelow f fd) (FN : NumT K mg fN fdN) (bN : Binds K fdN ["thing"] []) (gN : mg "is_number" = some (.ref fN)) (B : Blt mg) :
    FnOk P w K mg base CX0 3 f fd ["bound", "thing"] (spIsBelow K) := by
  have GN : FnOk P w K mg base CX0 2 fN fdN ["thing"] (spIsNum K) := ok_isnum FN B
  refine F.ok scIsBelow (fun vs H Q E h => ?_) (fun cdv A outer s H vs Q E hr h => ?_)
  · obtain ⟨n, v, rfl, _⟩ := h
    rfl
  · obtain ⟨n, v, rfl, o, q⟩ := h
    refine ⟨_, pss_one (ps_ret (pe_and (pe_call GN hr (by rfl) gN FN.kp bN .nil pass0 (pa_cons (pv 1) pa_nil)) (pe_one (pe_cmpR op_lt (pv 1) (pv 0) (nomark _))))), ?_⟩
    refine ⟨_, rfl, v, rfl, o, _, rfl, ?_⟩
    cases v with
    | int i =>
      refine ite_ok (fun h => ?_) fun h => ?_
      · refine ⟨_, rfl, _, rfl, _, _, rfl, rfl, ?_⟩
        have e : isBelow n (.int i) = decide (i < n) := by
          unfold isBelow
          simp [h]
        rw [e] at q
        exact q
      · have e : isBelow n (.int i) = false := by
          unfold isBelow
          simp [h]
        rw [e] at q
        exact q
    | bl x => exact iteF q
    | non => exact iteF q
    | str x => exact iteF q
    | byt x => exact iteF q
    | flt x => exact iteF q
    | ref x => exact iteF q
    | ty x => exact iteF q
end
end Rip

/-! Lots as masks: mask_of, lot_of, is_lot_below. -/
namespace Rip
open PySem PySem.Spec PyProof.Rows L2
theorem iteN {c : Prop} [Decidable c] {A B : Prop} (hc : ¬ c) (h : B) : if decide c = true then A else B := by
  rw [if_neg (by simpa using hc)]
  exact h
theorem iteY {c : Prop} [Decidable c] {A B : Prop} (hc : c) (h : A) : if decide c = true then A else B := by
  rw [if_pos (decide_eq_true hc)]
  exact h
theorem ite_b {b : Bool} {A B : Prop} (h1 : b = true → A) (h2 : b = false → B) : if b = true then A else B := by
  cases b with
  | true => rw [if_pos rfl]; exact h1 rfl
  | false => rw [if_neg Bool.false_ne_true]; exact h2 rfl
theorem st_eq {t : TS} {D : Ends} {σ σ' : L2.St} {H : Hp} (e : σ = σ') (h : t D σ' H) : t D σ H := by
  rw [e]
  exact h
/-- numbers as values -/
abbrev nV (i : Nat) : V := .int (i : Int)
/-- xs[i], read for xs[i] op= e -/
theorem get_list {X : Cx} : PGet X (fun o i H Q => ∃ (p : Addr) (xs : List V) (j : Nat) (v : V), o = .ref p ∧ i = nV j ∧ SqL X.K H p xs ∧ xs[j]? = some v ∧ Q v H) := by
  intro pins s σ H o i ov iv Q I ro ri h
  obtain ⟨p, xs, j, v, rfl, rfl, hq, hv, q⟩ := h
  cases ro
  obtain ⟨t, rfl⟩ := ri
  obtain ⟨its, r, pl, hz⟩ := I.list hq
  obtain ⟨u, eu, ru⟩ := r.get hv
  have hj : j < its.length := (List.getElem?_eq_some_iff.mp eu).1
  have hl := r.length
  have l63 := line63
  exact wpAny_getItem_list pl.isList (by omega) (by omega) (by simpa using eu) ⟨v, H, I, ru, q⟩
theorem pip_or {X : Cx} : PIp X .BitOr (rI0 fun i j => .int (Builtin.bitOr i j)) := iop_or
theorem pip_xor {X : Cx} : PIp X .BitXor (rI0 fun i j => .int (Builtin.bitXor i j)) := iop_xor
section
variable {P : Program} {w : World} {K : PySem.W.Frag} {mg : Str → Option Value} {base : Heap}
abbrev s_maskof : Stmt := top 11
abbrev s_lotof : Stmt := top 12
abbrev s_islot : Stmt := top 10
/-! ### mask_of -/
def spMaskOf (K : PySem.W.Frag) : Sp := fun vs H Q _ => ∃ (a : Addr) (l : List Nat), vs = [.ref a] ∧ SqT K H a (l.map nV) ∧ (∀ i ∈ l, i ≤ 1000000) ∧ Q (nV (maskOf l)) H
abbrev scMaskN : List Str := ["lot", "mask", "item"]
theorem scMask : FnScope scMaskN ["lot"] (defScope s_maskof) := ⟨rfl, rfl, rfl, by decide +kernel, rfl, by decide +kernel, by decide +kernel⟩
theorem mask_take {l : List Nat} {i j : Nat} (h : l[j]? = some i) : maskOf (l.take (j + 1)) = (maskOf (l.take j) ||| 2 ^ i) := by
  rw [List.take_add_one, h]
  unfold maskOf
  rw [List.foldl_append]
  rfl
theorem ok_maskof {f : Addr} {fd : FuncData} (F : Fun K "mask_of" "mask_of" s_maskof f fd) : FnOk P w K mg base CX0 1 f fd ["lot"] (spMaskOf K) := by
  refine F.ok scMask (fun vs H Q E h => ?_) (fun cdv A outer s H vs Q E hr h => ?_)
  · obtain ⟨a, l, rfl, _⟩ := h
    rfl
  · obtain ⟨a, l, rfl, hS, hl, q⟩ := h
    refine ⟨_,
      (pss_cons (ps_set (i := 1) scMask.nd rfl (.inl rfl) pe_int)
      (pss_cons (ps_for PassesOwn.never rfl (pi_tup (pv 0)) (pg_name (i := 2) scMask.nd rfl (.inl rfl))
        (pss_one (ps_aug (i := 1) scMask.nd rfl (.inl rfl) (pe_op op_shl pe_int (pv 2)) pip_or)))
      (pss_one (ps_ret (pv 1))))), ?_⟩
    refine ⟨_, rfl, a, rfl, ⟨_, hS⟩, for_it (walk_tup (K := K) (a := a) (xs := l.map nV)) (fun i σ H2 => H2 = H ∧ ∃ v, σ = [some (.ref a), some (nV (maskOf (l.take i))), v]) ⟨rfl, none, rfl⟩ (fun i σ H2 _ z => z.1 ▸ hS) ?_ ?_⟩
    · rintro i x σ H2 H' hi ⟨rfl, v, rfl⟩ ⟨rfl, ex⟩
      rw [List.getElem?_map] at ex
      cases e : l[i]? with
      | none => rw [e] at ex; cases ex
      | some n =>
        rw [e] at ex
        cases ex
        have hn := hl n (List.mem_of_getElem? e)
        refine ⟨_, rfl, _, rfl, _, _, rfl, rfl, ⟨by omega, by omega, by decide⟩, _, _, rfl, rfl, rfl, some (nV n), ?_⟩
        have e2 : (1 : Int) * 2 ^ ((n : Int)).toNat = ((2 ^ n : Nat) : Int) := by
          rw [Int.toNat_natCast]
          simp
        show [some (V.ref a), some (V.int (Builtin.bitOr ((maskOf (l.take i) : Nat) : Int) ((1 : Int) * 2 ^ ((n : Int)).toNat))), some (nV n)] = _
        rw [e2, bor_nat, ← mask_take e]
    · rintro σ H2 ⟨rfl, v, rfl⟩
      rw [List.length_map, List.take_length]
      exact ⟨_, rfl, q⟩
/-! ### lot_of -/
def spLotOf : Sp := fun vs H Q _ => ∃ (m : Nat), vs = [nV m] ∧ ∀ (p : Addr) (H' : Hp), Same H H' → H p = none → H' p = some (.tup ((lotOf m).map nV)) → Q (.ref p) H'
abbrev scLotN : List Str := ["mask", "items", "lowest"]
theorem scLot : FnScope scLotN ["mask"] (defScope s_lotof) := ⟨rfl, rfl, rfl, by decide +kernel, rfl, by decide +kernel, by decide +kernel⟩
theorem lotOf_len {m n : Nat} (h : m < 2 ^ n) : (lotOf m).length ≤ n := by
  have h1 := asc_lotOf m
  have h2 : ∀ j ∈ lotOf m, j < n := fun j hj => by
    rw [mem_lotOf] at hj
    by_cases z : j < n
    · exact z
    · rw [Nat.testBit_lt_two_pow (Nat.lt_of_lt_of_le h (Nat.pow_le_pow_right (by decide) (by omega)))] at hj
      cases hj
  have key : ∀ (l : List Nat) (k : Nat), l.Pairwise (· < ·) → (∀ j ∈ l, k ≤ j ∧ j < n) → l.length + k ≤ n ∨ l = [] := by
    intro l
    induction l with
    | nil => exact fun _ _ _ => .inr rfl
    | cons x l ih =>
      intro k hp hb
      have hx := hb x List.mem_cons_self
      have hp' := List.pairwise_cons.mp hp
      rcases ih (x + 1) hp'.2 (fun j hj => ⟨hp'.1 j hj, (hb j (List.mem_cons_of_mem _ hj)).2⟩) with z | z
      · left; rw [List.length_cons]; omega
      · left; rw [z]; simp only [List.length_cons, List.length_nil]; omega
  rcases key _ 0 h1 (fun j hj => ⟨Nat.zero_le _, h2 j hj⟩) with z | z
  · omega
  · rw [z]; simp
theorem ok_lotof {f : Addr} {fd : FuncData} (F : Fun K "lot_of" "lot_of" s_lotof f fd) (B : Blt mg) : FnOk P w K mg base CX0 1 f fd ["mask"] (fun vs H Q E => spLotOf vs H Q E ∧ ∃ m, vs = [nV m] ∧ m < 2 ^ 900000) := by
  refine F.ok scLot (fun vs H Q E h => ?_) (fun cdv A outer s H vs Q E hr h => ?_)
  · obtain ⟨⟨m, rfl, _⟩, _⟩ := h
    rfl
  · obtain ⟨⟨m, rfl, q⟩, m', em, hm⟩ := h
    have em' : m' = m := by
      injection em with e _
      injection e with e
      omega
    subst em'
    have hlen := lotOf_len hm
    refine ⟨_,
      (pss_cons (ps_set (i := 1) scLot.nd rfl (.inl rfl) (pe_lst pa_nil))
      (pss_cons (ps_while PassesOwn.never (pt_truth (pv 0) (fun _ => rfl))
        (pss_cons (ps_set (i := 2) scLot.nd rfl (.inl rfl) (pe_op op_and (pv 0) (pe_un un_neg (pv 0))))
        (pss_cons (ps_expr (pe_bm PySem.F.plainAttrs_list PySem.F.slot_list_append PySem.F.type_list_append mt_append (pv 1) (pa_cons (pe_op op_sub (pe_bits (pv 2)) pe_int) pa_nil)))
        (pss_one (ps_aug (i := 0) scLot.nd rfl (.inl rfl) (pv 2) pip_xor)))))
      (pss_one (ps_ret (pe_tupleOf (by rfl) B.tuple (pv 1)))))), ?_⟩
    refine ⟨Nat.zero_le _, fun l nl => ?_⟩
    dsimp only [gName, tSeq]
    refine while_by (fun σ H2 => ∃ (k : Nat) (got : List Nat) (v : Option V), σ = [some (nV k), some (.ref l), v] ∧ got ++ lotOf k = lotOf m' ∧ Same H H2 ∧ H2 l = some (.lst (got.map nV))) (fun σ _ => match σ with | some (.int k) :: _ => k.toNat | _ => 0)
      ⟨m', [], none, rfl, rfl, same_upd nl, upd_same⟩ ?_ ?_
    · rintro σ H2 ⟨k, got, v, rfl, hg, s2, el⟩
      refine ⟨_, rfl, _, rfl, ite_b (fun hk => ?_) fun hk => ?_⟩
      · have k0 : k ≠ 0 := fun z => by subst z; simp at hk
        have hgl : got.length < 900000 := by
          have z := congrArg List.length hg
          rw [List.length_append, lotOf_pos k0, List.length_cons] at z
          omega
        refine ⟨_, rfl, _, rfl, _, rfl, _, _, rfl, rfl, ?_⟩
        dsimp only [gName]
        rw [band_neg k0]
        refine ⟨_, rfl, .inl ⟨rfl, _, .inl (.inl el)⟩, _, rfl, _, rfl, _, _, rfl, rfl, l, _, _, rfl, rfl, el, by rw [List.length_map, sizeLine_eq]; omega, ?_⟩
        dsimp only
        rw [bits_pow]
        refine ⟨_, rfl, _, rfl, _, _, rfl, rfl, ?_⟩
        dsimp only
        rw [bxor_nat, low_xor k0]
        have hp := Nat.two_pow_pos (lowI k)
        have hle := low_le k0
        refine ⟨⟨k - 2 ^ lowI k, got ++ [lowI k], _, rfl, ?_, same_put s2 nl, ?_⟩, ?_⟩
        · rw [List.append_assoc]
          rw [lotOf_pos k0] at hg
          exact hg
        · rw [upd_same, List.map_append]
          rfl
        · show ((k - 2 ^ lowI k : Nat) : Int).toNat < ((k : Nat) : Int).toNat
          omega
      · have k0 : k = 0 := by
          simp only [bne_eq_false_iff_eq] at hk
          omega
        subst k0
        rw [lotOf_zero, List.append_nil] at hg
        subst hg
        refine ⟨_, rfl, .inl ⟨l, _, rfl, .inl (.inl el), fun p np => ?_⟩⟩
        exact q p _ (same_put s2 (s2.free np)) (s2.free np) upd_same
    · rintro σ H2 Q1 Q2 hq ⟨v, e, k, t, z⟩
      exact ⟨v, e, k, t, hq _ _ z⟩
end
end Rip

/-! far_masks: what each change needs, however far, or a ring. -/
namespace Rip
open PySem PySem.Spec PyProof.Rows L2
/-! ### mathematics: what is needed however far; one change behind another -/
inductive Far (ns : List (Nat × Nat)) : Nat → Nat → Prop
  | one {c o : Nat} (h : (c, o) ∈ ns) : Far ns c o
  | step {c m o : Nat} (h : (c, m) ∈ ns) (t : Far ns m o) : Far ns c o
theorem Far.trans {ns : List (Nat × Nat)} {a b c : Nat} (x : Far ns a b) (y : Far ns b c) : Far ns a c := by
  induction x with
  | one h => exact .step h y
  | step h _ ih => exact .step h (ih y)
/-- the changes of D, the last one first, each behind all that it needs -/
inductive Topo (ns : List (Nat × Nat)) : List Nat → Prop
  | nil : Topo ns []
  | cons {x : Nat} {D : List Nat} (t : Topo ns D) (h : x ∉ D) (k : ∀ o, (x, o) ∈ ns → o ∈ D) : Topo ns (x :: D)
theorem Topo.closed {ns : List (Nat × Nat)} {D : List Nat} (t : Topo ns D) : ∀ {c o : Nat}, c ∈ D → (c, o) ∈ ns → o ∈ D := by
  induction t with
  | nil => intro c o h; cases h
  | @cons x D _ _ k ih =>
    intro c o h e
    rcases List.mem_cons.mp h with z | z
    · subst z; exact List.mem_cons_of_mem _ (k o e)
    · exact List.mem_cons_of_mem _ (ih z e)
theorem Topo.far {ns : List (Nat × Nat)} {D : List Nat} (t : Topo ns D) {c o : Nat} (f : Far ns c o) : c ∈ D → o ∈ D := by
  induction f with
  | one h => exact fun z => t.closed z h
  | step h _ ih => exact fun z => ih (t.closed z h)
theorem Topo.acyclic {ns : List (Nat × Nat)} {D : List Nat} (t : Topo ns D) : ∀ {c : Nat}, c ∈ D → ¬ Far ns c c := by
  induction t with
  | nil => intro c h; cases h
  | @cons x D t hx k ih =>
    intro c h f
    rcases List.mem_cons.mp h with z | z
    · subst z
      have : c ∈ D := by
        cases f with
        | one e => exact k c e
        | step e f => exact t.far f (k _ e)
      exact hx this
    · exact ih z f
theorem ring_of {ns : List (Nat × Nat)} : ∀ (S : List Nat), S ≠ [] → (∀ c ∈ S, ∃ o ∈ S, Far ns c o) → ∃ c ∈ S, Far ns c c
  | [], h, _ => absurd rfl h
  | x :: S, _, h => by
    by_cases hx : Far ns x x
    · exact ⟨x, List.mem_cons_self, hx⟩
    · obtain ⟨y, hy, fy⟩ := h x List.mem_cons_self
      have yS : y ∈ S := by
        rcases List.mem_cons.mp hy with e | e
        · subst e; exact absurd fy hx
        · exact e
      obtain ⟨c, hc, fc⟩ := ring_of S (List.ne_nil_of_mem yS) fun c hc => by
        obtain ⟨o, ho, fo⟩ := h c (List.mem_cons_of_mem _ hc)
        rcases List.mem_cons.mp ho with e | e
        · subst e; exact ⟨y, yS, fo.trans fy⟩
        · exact ⟨o, e, fo⟩
      exact ⟨c, List.mem_cons_of_mem _ hc, fc⟩
/-- how many needs of c are not done -/
def cnt (ns : List (Nat × Nat)) (P : Nat × Nat → Bool) (c : Nat) : Nat := (ns.filter fun p => decide (p.1 = c) && !P p).length
theorem cnt_congr {ns : List (Nat × Nat)} {P P' : Nat × Nat → Bool} (h : ∀ p ∈ ns, P p = P' p) (c : Nat) : cnt ns P c = cnt ns P' c := by
  unfold cnt
  congr 1
  exact List.filter_congr fun p hp => by rw [h p hp]
theorem cnt_zero {ns : List (Nat × Nat)} {P : Nat × Nat → Bool} {c : Nat} : cnt ns P c = 0 ↔ ∀ o, (c, o) ∈ ns → P (c, o) = true := by
  unfold cnt
  rw [List.length_eq_zero_iff, List.filter_eq_nil_iff]
  constructor
  · intro h o ho
    have := h (c, o) ho
    simpa using this
  · intro h p hp
    obtain ⟨a, o⟩ := p
    by_cases e : a = c
    · subst e; simp [h o hp]
    · simp [e]
theorem cnt_other {ns : List (Nat × Nat)} {P : Nat × Nat → Bool} {c x d : Nat} (hd : d ≠ c) : cnt ns (fun p => P p || decide (p = (c, x))) d = cnt ns P d := by
  unfold cnt
  congr 1
  refine List.filter_congr fun p _ => ?_
  by_cases e : p.1 = d
  · have : p ≠ (c, x) := fun z => hd (by rw [← e, z])
    simp [this]
  · simp [e]
theorem cnt_step {P : Nat × Nat → Bool} {c x : Nat} (hP : P (c, x) = false) : ∀ {ns : List (Nat × Nat)}, ns.Nodup → (c, x) ∈ ns → cnt ns P c = cnt ns (fun p => P p || decide (p = (c, x))) c + 1
  | [], _, h => by cases h
  | p :: ns, hn, h => by
    obtain ⟨h1, h2⟩ := List.nodup_cons.mp hn
    by_cases e : p = (c, x)
    · subst e
      have z : cnt ns (fun p => P p || decide (p = (c, x))) c = cnt ns P c := cnt_congr (fun q hq => by
        have : q ≠ (c, x) := fun y => h1 (y ▸ hq)
        simp [this]) c
      unfold cnt at *
      rw [List.filter_cons_of_pos (by simp [hP]), List.filter_cons_of_neg (by simp), z, List.length_cons]
    · have hm : (c, x) ∈ ns := by
        rcases List.mem_cons.mp h with z | z
        · exact absurd z.symm e
        · exact z
      have ih := cnt_step hP h2 hm
      unfold cnt at *
      by_cases k : (decide (p.1 = c) && !P p) = true
      · rw [List.filter_cons, List.filter_cons, if_pos k, if_pos (by simpa [e] using k), List.length_cons, List.length_cons, ih]
      · rw [List.filter_cons, List.filter_cons, if_neg k, if_neg (by simpa [e] using k), ih]
/-- m tells what of the done needs of c there is, however far -/
def FarOk (ns : List (Nat × Nat)) (P : Nat × Nat → Bool) (c m : Nat) : Prop := ∀ o, m.testBit o = true ↔ ∃ x, (c, x) ∈ ns ∧ P (c, x) = true ∧ (x = o ∨ Far ns x o)
theorem FarOk.congr {ns : List (Nat × Nat)} {P P' : Nat × Nat → Bool} {c m : Nat} (f : FarOk ns P c m) (h : ∀ p ∈ ns, P p = P' p) : FarOk ns P' c m := fun o => by
  rw [f o]
  exact ⟨fun ⟨x, h1, h2, h3⟩ => ⟨x, h1, (h _ h1) ▸ h2, h3⟩, fun ⟨x, h1, h2, h3⟩ => ⟨x, h1, (h _ h1).symm ▸ h2, h3⟩⟩
theorem FarOk.full {ns : List (Nat × Nat)} {P : Nat × Nat → Bool} {c m : Nat} (f : FarOk ns P c m) (h : cnt ns P c = 0) (o : Nat) : m.testBit o = true ↔ Far ns c o := by
  rw [f o]
  constructor
  · rintro ⟨x, h1, _, rfl | h3⟩
    · exact .one h1
    · exact .step h1 h3
  · intro z
    cases z with
    | one e => exact ⟨o, e, cnt_zero.mp h _ e, .inl rfl⟩
    | @step _ y _ e t => exact ⟨y, e, cnt_zero.mp h _ e, .inr t⟩
theorem FarOk.put {ns : List (Nat × Nat)} {P : Nat × Nat → Bool} {c x m mo : Nat} (f : FarOk ns P c m) (hm : (c, x) ∈ ns) (ho : ∀ o, mo.testBit o = true ↔ Far ns x o) : FarOk ns (fun p => P p || decide (p = (c, x))) c (m ||| (mo ||| 2 ^ x)) := fun o => by
  rw [Nat.testBit_or, Nat.testBit_or, Nat.testBit_two_pow, Bool.or_eq_true, Bool.or_eq_true, f o, ho o, decide_eq_true_eq]
  constructor
  · rintro (⟨y, h1, h2, h3⟩ | h | h)
    · exact ⟨y, h1, by simp [h2], h3⟩
    · exact ⟨x, hm, by simp, .inr h⟩
    · exact ⟨x, hm, by simp, .inl h⟩
  · rintro ⟨y, h1, h2, h3⟩
    simp only [Bool.or_eq_true, decide_eq_true_eq, Prod.mk.injEq, true_and] at h2
    rcases h2 with h2 | h2
    · exact .inl ⟨y, h1, h2, h3⟩
    · subst h2
      rcases h3 with h3 | h3
      · exact .inr (.inr h3)
      · exact .inr (.inl h3)
theorem FarOk.other {ns : List (Nat × Nat)} {P : Nat × Nat → Bool} {c x d m : Nat} (f : FarOk ns P d m) (hd : d ≠ c) : FarOk ns (fun p => P p || decide (p = (c, x))) d m := fun o => by
  rw [f o]
  have e : ∀ y, (d, y) ≠ (c, x) := fun y z => hd (Prod.mk.inj z).1
  exact ⟨fun ⟨y, h1, h2, h3⟩ => ⟨y, h1, by simp [h2], h3⟩, fun ⟨y, h1, h2, h3⟩ => ⟨y, h1, by simpa [e y] using h2, h3⟩⟩
/-- the state of the work: V the changes taken out, R those that are ready, l what is left, f what is known -/
structure Wk (ns : List (Nat × Nat)) (many : Nat) (P : Nat × Nat → Bool) (V R l f : List Nat) : Prop where
  ll : l.length = many
  lf : f.length = many
  left : ∀ c, c < many → l[c]? = some (cnt ns P c)
  far : ∀ c m, f[c]? = some m → FarOk ns P c m
  rn : R.Nodup
  rm : ∀ c, c ∈ R ↔ c < many ∧ c ∉ V ∧ cnt ns P c = 0
  vz : ∀ d ∈ V, d < many ∧ cnt ns P d = 0
theorem Wk.congr {ns : List (Nat × Nat)} {many : Nat} {P P' : Nat × Nat → Bool} {V R l f : List Nat} (W : Wk ns many P V R l f) (h : ∀ p ∈ ns, P p = P' p) : Wk ns many P' V R l f :=
  ⟨W.ll, W.lf, fun c hc => by rw [W.left c hc, cnt_congr h], fun c m e => (W.far c m e).congr h, W.rn, fun c => by rw [W.rm c, cnt_congr h], fun d hd => by rw [← cnt_congr h]; exact W.vz d hd⟩
theorem Wk.step {ns : List (Nat × Nat)} {many : Nat} {P : Nat × Nat → Bool} {V R l f : List Nat} (W : Wk ns many P V R l f) (hn : ns.Nodup) {c x lc mc mo : Nat} (hm : (c, x) ∈ ns) (hP : P (c, x) = false) (hc : c < many) (hx : x ∈ V)
    (el : l[c]? = some lc) (ec : f[c]? = some mc) (eo : f[x]? = some mo) :
    c ≠ x ∧ 1 ≤ lc ∧ Wk ns many (fun p => P p || decide (p = (c, x))) V (if lc - 1 = 0 then R ++ [c] else R) (l.set c (lc - 1)) (f.set c (mc ||| (mo ||| 2 ^ x))) := by
  have s := cnt_step hP hn hm
  have e1 : lc = cnt ns P c := Option.some.inj (el.symm.trans (W.left c hc))
  have hcV : c ∉ V := fun z => by
    have := (W.vz c z).2
    omega
  have hcx : c ≠ x := fun z => hcV (z ▸ hx)
  have hc0 : c ∉ R := fun z => by
    have := ((W.rm c).mp z).2.2
    omega
  have ex : lc - 1 = cnt ns (fun p => P p || decide (p = (c, x))) c := by omega
  refine ⟨hcx, by omega, ?_⟩
  refine ⟨by rw [List.length_set]; exact W.ll, by rw [List.length_set]; exact W.lf, fun d hd => ?_, fun d m e => ?_, ?_, fun d => ?_, fun d hd => ?_⟩
  · by_cases h : d = c
    · subst h
      rw [List.getElem?_set_self (by rw [W.ll]; exact hd), ex]
    · rw [List.getElem?_set_ne (fun z => h z.symm), W.left d hd, cnt_other h]
  · by_cases h : d = c
    · subst h
      rw [List.getElem?_set_self (by rw [W.lf]; exact hc)] at e
      cases e
      exact (W.far d mc ec).put hm fun o => (W.far x mo eo).full (W.vz x hx).2 o
    · rw [List.getElem?_set_ne (fun z => h z.symm)] at e
      exact (W.far d m e).other h
  · split
    · refine List.nodup_append.mpr ⟨W.rn, by simp, fun a ha b hb => ?_⟩
      rw [List.mem_singleton] at hb
      subst hb
      exact fun z => hc0 (z ▸ ha)
    · exact W.rn
  · by_cases h : d = c
    · subst h
      split
      · rename_i z
        simp [hc, hcV, ← ex, z]
      · rename_i z
        constructor
        · intro y; exact absurd y hc0
        · rintro ⟨_, _, y⟩; omega
    · rw [cnt_other h]
      split
      · rw [List.mem_append, List.mem_singleton, W.rm d]
        simp [h]
      · exact W.rm d
  · have hdc : d ≠ c := fun z => hcV (z ▸ hd)
    rw [cnt_other hdc]
    exact W.vz d hd
/-- the changes that need o, as the needs stand -/
def usersOf (ns : List (Nat × Nat)) (o : Nat) : List Nat := (ns.filter fun p => decide (p.2 = o)).map (·.1)
theorem mem_usersOf {ns : List (Nat × Nat)} {o c : Nat} : c ∈ usersOf ns o ↔ (c, o) ∈ ns := by
  unfold usersOf
  simp only [List.mem_map, List.mem_filter, decide_eq_true_eq]
  constructor
  · rintro ⟨⟨a, b⟩, ⟨h, rfl⟩, rfl⟩
    exact h
  · intro h
    exact ⟨(c, o), ⟨h, rfl⟩, rfl⟩
theorem nodup_usersOf {o : Nat} : ∀ {ns : List (Nat × Nat)}, ns.Nodup → (usersOf ns o).Nodup
  | [], _ => .nil
  | p :: ns, h => by
    obtain ⟨h1, h2⟩ := List.nodup_cons.mp h
    have ih := nodup_usersOf (o := o) h2
    by_cases e : p.2 = o
    · have z : usersOf (p :: ns) o = p.1 :: usersOf ns o := by
        unfold usersOf
        rw [List.filter_cons_of_pos (by simpa using e)]
        rfl
      rw [z]
      refine List.nodup_cons.mpr ⟨fun y => ?_, ih⟩
      rw [mem_usersOf] at y
      exact h1 (by rw [← e] at y; exact y)
    · have z : usersOf (p :: ns) o = usersOf ns o := by
        unfold usersOf
        rw [List.filter_cons_of_neg (by simpa using e)]
      rw [z]
      exact ih
/-- what is told: a mask for each change, or there is a ring -/
structure FarsOf (many : Nat) (ns : List (Nat × Nat)) (f : List Nat) : Prop where
  len : f.length = many
  bits : ∀ c m, f[c]? = some m → ∀ o, m.testBit o = true ↔ Far ns c o
  no : ∀ c, c < many → ¬ Far ns c c
theorem Wk.take {ns : List (Nat × Nat)} {many : Nat} {D R l f : List Nat} {x : Nat} (W : Wk ns many (fun p => decide (p.2 ∈ D)) D (R ++ [x]) l f) (T : Topo ns D) :
    Wk ns many (fun p => decide (p.2 ∈ D)) (x :: D) R l f ∧ Topo ns (x :: D) ∧ x < many := by
  obtain ⟨h1, h2, h3⟩ := (W.rm x).mp (by simp)
  have hn := List.nodup_append.mp W.rn
  refine ⟨⟨W.ll, W.lf, W.left, W.far, hn.1, fun c => ?_, fun d hd => ?_⟩, .cons T h2 fun o ho => ?_, h1⟩
  · have := W.rm c
    constructor
    · intro z
      obtain ⟨a, b, e⟩ := (W.rm c).mp (List.mem_append_left _ z)
      refine ⟨a, fun y => ?_, e⟩
      rcases List.mem_cons.mp y with y | y
      · subst y; exact hn.2.2 c z c (by simp) rfl
      · exact b y
    · rintro ⟨a, b, e⟩
      have z := (W.rm c).mpr ⟨a, fun y => b (List.mem_cons_of_mem _ y), e⟩
      rcases List.mem_append.mp z with z | z
      · exact z
      · rw [List.mem_singleton] at z
        exact absurd (List.mem_cons.mpr (.inl z)) b
  · rcases List.mem_cons.mp hd with z | z
    · subst z; exact ⟨h1, h3⟩
    · exact W.vz d z
  · have := cnt_zero.mp h3 o ho
    simpa using this
theorem topo_nodup {ns : List (Nat × Nat)} {D : List Nat} (T : Topo ns D) : D.Nodup := by
  induction T with
  | nil => exact .nil
  | cons _ h _ ih => exact List.nodup_cons.mpr ⟨h, ih⟩
theorem nodup_below : ∀ {n : Nat} {D : List Nat}, D.Nodup → (∀ d ∈ D, d < n) → D.length ≤ n
  | 0, D, _, b => by
    cases D with
    | nil => exact Nat.le_refl _
    | cons d D => exact absurd (b d List.mem_cons_self) (Nat.not_lt_zero _)
  | n + 1, D, h, b => by
    by_cases z : n ∈ D
    · have := nodup_below (n := n) (h.erase n) fun d hd => by
        have y := (h.mem_erase_iff).mp hd
        have := b d y.2
        omega
      rw [List.length_erase_of_mem z] at this
      omega
    · have := nodup_below (n := n) h fun d hd => by
        have := b d hd
        have : d ≠ n := fun e => z (e ▸ hd)
        omega
      omega
theorem full_below {n : Nat} {D : List Nat} (h : D.Nodup) (b : ∀ d ∈ D, d < n) (hl : D.length = n) : ∀ c, c < n → c ∈ D := by
  intro c hc
  by_cases z : c ∈ D
  · exact z
  · have := nodup_below (n := n) (D := c :: D) (List.nodup_cons.mpr ⟨z, h⟩) fun d hd => by
      rcases List.mem_cons.mp hd with e | e
      · subst e; exact hc
      · exact b d e
    rw [List.length_cons] at this
    omega
theorem range_sub : ∀ {n : Nat} {D : List Nat}, (∀ c, c < n → c ∈ D) → n ≤ D.length
  | 0, _, _ => Nat.zero_le _
  | n + 1, D, h => by
    have hn := h n (Nat.lt_succ_self n)
    have := range_sub (n := n) (D := D.erase n) fun c hc => (List.mem_erase_of_ne (by omega)).mpr (h c (by omega))
    rw [List.length_erase_of_mem hn] at this
    have := List.length_pos_of_mem hn
    omega
/-- nothing is ready any more -/
theorem Wk.done {ns : List (Nat × Nat)} {many : Nat} {D l f : List Nat} (W : Wk ns many (fun p => decide (p.2 ∈ D)) D [] l f) (T : Topo ns D) (hb : ∀ p ∈ ns, p.1 < many ∧ p.2 < many) :
    (D.length = many → FarsOf many ns f) ∧ (D.length < many → ∃ c, c < many ∧ Far ns c c) ∧ D.length ≤ many := by
  have hn := topo_nodup T
  have hd : ∀ d ∈ D, d < many := fun d z => (W.vz d z).1
  refine ⟨fun hl => ?_, fun hl => ?_, nodup_below hn hd⟩
  · have full := full_below hn hd hl
    refine ⟨W.lf, fun c m e => ?_, fun c hc => T.acyclic (full c hc)⟩
    have hc : c < many := by
      have := (List.getElem?_eq_some_iff.mp e).1
      rw [W.lf] at this
      exact this
    exact (W.far c m e).full (W.vz c (full c hc)).2
  · have hex : ∃ c, c < many ∧ c ∉ D := by
      by_cases z : ∃ c, c < many ∧ c ∉ D
      · exact z
      · exfalso
        have all : ∀ c, c < many → c ∈ D := fun c hc => Classical.not_not.mp fun y => z ⟨c, hc, y⟩
        have := range_sub all
        omega
    obtain ⟨c0, h0, n0⟩ := hex
    obtain ⟨c, hc, fc⟩ := ring_of (ns := ns) ((List.range many).filter fun c => decide (c ∉ D)) (List.ne_nil_of_mem (a := c0) (by simp [h0, n0])) fun c hc => by
      simp only [List.mem_filter, List.mem_range, decide_eq_true_eq] at hc
      have nz : cnt ns (fun p => decide (p.2 ∈ D)) c ≠ 0 := fun z => by
        have := (W.rm c).mpr ⟨hc.1, hc.2, z⟩
        cases this
      have : ∃ o, (c, o) ∈ ns ∧ o ∉ D := by
        by_cases z : ∃ o, (c, o) ∈ ns ∧ o ∉ D
        · exact z
        · exact absurd (cnt_zero.mpr fun o ho => decide_eq_true (Classical.not_not.mp fun y => z ⟨o, ho, y⟩)) nz
      obtain ⟨o, ho, hno⟩ := this
      exact ⟨o, by simp [(hb _ ho).2, hno], .one ho⟩
    simp only [List.mem_filter, List.mem_range] at hc
    exact ⟨c, hc.1, fc⟩
theorem cnt_none (c : Nat) {P : Nat × Nat → Bool} : cnt [] P c = 0 := rfl
theorem take_one {α : Type} {l : List α} {i : Nat} {x : α} (h : l[i]? = some x) : l.take (i + 1) = l.take i ++ [x] := by
  rw [List.take_add_one, h]
  rfl
theorem cnt_snoc (ns : List (Nat × Nat)) (p : Nat × Nat) (c : Nat) : cnt (ns ++ [p]) (fun _ => false) c = cnt ns (fun _ => false) c + if p.1 = c then 1 else 0 := by
  unfold cnt
  rw [List.filter_append, List.length_append]
  congr 1
  by_cases h : p.1 = c
  · rw [List.filter_cons_of_pos (by simpa using h), if_pos h]
    rfl
  · rw [List.filter_cons_of_neg (by simpa using h), if_neg h]
    rfl
theorem users_snoc (ns : List (Nat × Nat)) (p : Nat × Nat) (o : Nat) : usersOf (ns ++ [p]) o = usersOf ns o ++ if p.2 = o then [p.1] else [] := by
  unfold usersOf
  rw [List.filter_append, List.map_append]
  congr 1
  by_cases h : p.2 = o
  · rw [List.filter_cons_of_pos (by simpa using h), if_pos h]
    rfl
  · rw [List.filter_cons_of_neg (by simpa using h), if_neg h]
    rfl
theorem ixN_nat {n j : Nat} (h : j < n) : ixN n (j : Int) = some j := by
  unfold ixN
  rw [if_pos (by omega), if_pos (by omega)]
  simp
theorem map_get {l : List Nat} {i n : Nat} (h : l[i]? = some n) : (l.map nV)[i]? = some (nV n) := by
  rw [List.getElem?_map, h]
  rfl
theorem map_set (l : List Nat) (i n : Nat) : (l.map nV).set i (nV n) = (l.set i n).map nV := by
  rw [List.map_set]
/-- at a the tuple of the needs, each a pair -/
def PairsAt (K : PySem.W.Frag) (H : Hp) (a : Addr) (ns : List (Nat × Nat)) : Prop := ∃ rs : List Addr, SqT K H a (rs.map V.ref) ∧ rs.length = ns.length ∧
  ∀ (i : Nat) (r : Addr) (p : Nat × Nat), rs[i]? = some r → ns[i]? = some p → SqT K H r [nV p.1, nV p.2]
theorem same_seqT {K : PySem.W.Frag} {H H' : Hp} {a : Addr} {xs : List V} (e : Same H H') (h : SqT K H a xs) : SqT K H' a xs := by
  unfold SqT at *
  rcases h with (h | ⟨o, h⟩) | h
  · exact .inl (.inl (e _ _ h))
  · exact .inl (.inr ⟨o, e _ _ h⟩)
  · exact .inr h
section
variable {P : Program} {w : World} {K : PySem.W.Frag} {mg : Str → Option Value} {base : Heap}
abbrev s_far : Stmt := top 13
def spFar (K : PySem.W.Frag) : Sp := fun vs H Q _ => ∃ (n : Nat) (a : Addr) (ns : List (Nat × Nat)), vs = [nV n, .ref a] ∧ PairsAt K H a ns ∧ ns.Nodup ∧ (∀ p ∈ ns, p.1 < n ∧ p.2 < n) ∧ n ≤ 100000 ∧ ns.length ≤ 1000000 ∧
  (∀ (p : Addr) (H' : Hp) (f : List Nat), Same H H' → H p = none → H' p = some (.tup (f.map nV)) → FarsOf n ns f → Q (.ref p) H') ∧
  (∀ H', Same H H' → (∃ c, c < n ∧ Far ns c c) → Q .non H')
abbrev scFmN : List Str := ["many", "needs", "left", "users", "_", "change", "other", "far", "ready", "done"]
theorem scFm : FnScope scFmN ["many", "needs"] (defScope s_far) := ⟨rfl, rfl, rfl, by decide +kernel, rfl, by decide +kernel, by decide +kernel⟩
/-- the lists of the work stand: left at L, users at U (each at its own place of us), far at F, ready at R -/
structure Hq (ns : List (Nat × Nat)) (L U F R : Addr) (us : List Addr) (l f r : List Nat) (H : Hp) : Prop where
  eL : H L = some (.lst (l.map nV))
  eU : H U = some (.lst (us.map V.ref))
  eF : H F = some (.lst (f.map nV))
  eR : H R = some (.lst (r.map nV))
  eu : ∀ (o : Nat) (u : Addr), us[o]? = some u → H u = some (.lst ((usersOf ns o).map nV))
/-- they stand apart -/
structure Ap (L U F R : Addr) (us : List Addr) : Prop where
  LU : L ≠ U
  LF : L ≠ F
  LR : L ≠ R
  FU : F ≠ U
  RU : R ≠ U
  FR : F ≠ R
  Lu : ∀ u ∈ us, u ≠ L
  Fu : ∀ u ∈ us, u ≠ F
  Ru : ∀ u ∈ us, u ≠ R
theorem Hq.putL {ns : List (Nat × Nat)} {L U F R : Addr} {us : List Addr} {l f r l' : List Nat} {H : Hp} (q : Hq ns L U F R us l f r H) (A : Ap L U F R us) : Hq ns L U F R us l' f r (upd H L (.lst (l'.map nV))) :=
  ⟨upd_same, by rw [upd_ne A.LU.symm]; exact q.eU, by rw [upd_ne A.LF.symm]; exact q.eF, by rw [upd_ne A.LR.symm]; exact q.eR, fun o u e => by rw [upd_ne (A.Lu u (List.mem_of_getElem? e))]; exact q.eu o u e⟩
theorem Hq.putF {ns : List (Nat × Nat)} {L U F R : Addr} {us : List Addr} {l f r f' : List Nat} {H : Hp} (q : Hq ns L U F R us l f r H) (A : Ap L U F R us) : Hq ns L U F R us l f' r (upd H F (.lst (f'.map nV))) :=
  ⟨by rw [upd_ne A.LF]; exact q.eL, by rw [upd_ne A.FU.symm]; exact q.eU, upd_same, by rw [upd_ne A.FR.symm]; exact q.eR, fun o u e => by rw [upd_ne (A.Fu u (List.mem_of_getElem? e))]; exact q.eu o u e⟩
theorem Hq.putR {ns : List (Nat × Nat)} {L U F R : Addr} {us : List Addr} {l f r r' : List Nat} {H : Hp} (q : Hq ns L U F R us l f r H) (A : Ap L U F R us) : Hq ns L U F R us l f r' (upd H R (.lst (r'.map nV))) :=
  ⟨by rw [upd_ne A.LR]; exact q.eL, by rw [upd_ne A.RU.symm]; exact q.eU, by rw [upd_ne A.FR]; exact q.eF, upd_same, fun o u e => by rw [upd_ne (A.Ru u (List.mem_of_getElem? e))]; exact q.eu o u e⟩
theorem zeros (n : Nat) : (List.replicate ((n : Int)).toNat [V.int 0]).flatten = (List.replicate n 0).map nV := by
  rw [Int.toNat_natCast]
  induction n with
  | zero => rfl
  | succ n ih =>
    rw [List.replicate_succ, List.flatten_cons, ih, List.replicate_succ]
    rfl
theorem ok_far {f : Addr} {fd : FuncData} (Fn : Fun K "far_masks" "far_masks" s_far f fd) (B : Blt mg) : FnOk P w K mg base CX0 1 f fd ["many", "needs"] (spFar K) := by
  refine Fn.ok scFm (fun vs H Q E h => ?_) (fun cdv A outer s H vs Q E hr h => ?_)
  · obtain ⟨n, a, ns, rfl, _⟩ := h
    rfl
  · obtain ⟨n, a, ns, rfl, PA, hnd, hb, hn, hl, q1, q2⟩ := h
    obtain ⟨rs, hS, hrl, hrs⟩ := id PA
    have z1000 : 16777216 ≤ sizeLine := by rw [sizeLine_eq]; exact Nat.le_refl _
    refine ⟨_,
      (pss_cons (ps_set (i := 2) scFm.nd rfl (.inr rfl) (pe_op op_rep (pe_lst (pa_cons pe_int pa_nil)) (pv 0)))
      (pss_cons (ps_setLc (i := 3) (own := [("_", 4)]) (g := (gName 4)) (tt := tYes) rfl scFm.nd rfl rfl (sw_true rfl rfl rfl (by decide +kernel)) (pi_range1 (by rfl) B.range (pa_cons (pv 0) pa_nil)) (blkOk_by (own := [("_", 4)]) (N := scFmN) (sc := defScope s_far) (by decide +kernel)) (fun _ _ _ _ _ => (pg_name (i := 4) scFm.nd rfl (.inl rfl))) (fun _ _ _ _ _ => pts_nil) (fun _ _ _ _ _ => (pe_lst pa_nil)))
      (pss_cons (ps_for PassesOwn.never rfl (pi_tup (pv 1)) (pg_tup rfl (pgs_cons (pg_name (i := 5) scFm.nd rfl (.inl rfl)) (pgs_cons (pg_name (i := 6) scFm.nd rfl (.inl rfl)) pgs_nil)))
        (pss_cons (ps_augS (pv 2) (pv 5) get_list pe_int ip_add set_list)
        (pss_one (ps_expr (pe_bm PySem.F.plainAttrs_list PySem.F.slot_list_append PySem.F.type_list_append mt_append (pe_ix ix_list (pv 3) (pv 6) (fun _ _ => rfl)) (pa_cons (pv 5) pa_nil))))))
      (pss_cons (ps_set (i := 7) scFm.nd rfl (.inl rfl) (pe_op op_rep (pe_lst (pa_cons pe_int pa_nil)) (pv 0)))
      (pss_cons (ps_setLc (i := 8) (own := [("change", 5)]) (g := (gName 5)) (tt := tTest (tOp rEq (tOp (rIxL K) (tVar 2) (tVar 5)) (tC (.int 0)))) rfl scFm.nd rfl rfl (sw_true rfl rfl rfl (by decide +kernel)) (pi_range1 (by rfl) B.range (pa_cons (pv 0) pa_nil)) (blkOk_by (own := [("change", 5)]) (N := scFmN) (sc := defScope s_far) (by decide +kernel)) (fun _ _ _ _ _ => (pg_name (i := 5) scFm.nd rfl (.inl rfl))) (fun _ _ _ _ _ => (pts_one (pt_cmpR op_eq (pe_ix ix_list (pv 2) (pv 5) (fun _ _ => rfl)) pe_int (nomark _)))) (fun _ _ _ _ _ => (pv 5)))
      (pss_cons (ps_set (i := 9) scFm.nd rfl (.inl rfl) pe_int)
      (pss_cons (ps_while PassesOwn.never (pt_truth (pv 8) (fun _ => rfl))
        (pss_cons (ps_set (i := 6) scFm.nd rfl (.inl rfl) (pe_bm0 PySem.F.plainAttrs_list PySem.F.slot_list_pop PySem.F.type_list_pop mt_pop (pv 8)))
        (pss_cons (ps_aug (i := 9) scFm.nd rfl (.inl rfl) pe_int ip_add)
        (pss_one (ps_for PassesOwn.never rfl (pi_list (pe_ix ix_list (pv 3) (pv 6) (fun _ _ => rfl))) (pg_name (i := 5) scFm.nd rfl (.inl rfl))
          (pss_cons (ps_augS (pv 7) (pv 5) get_list (pe_op op_or (pe_ix ix_list (pv 7) (pv 6) (fun _ _ => rfl)) (pe_op op_shl pe_int (pv 6))) pip_or set_list)
          (pss_cons (ps_augS (pv 2) (pv 5) get_list pe_int ip_sub set_list)
          (pss_one (ps_if (pt_cmpR op_eq (pe_ix ix_list (pv 2) (pv 5) (fun _ _ => rfl)) pe_int (nomark _))
            (pss_one (ps_expr (pe_bm PySem.F.plainAttrs_list PySem.F.slot_list_append PySem.F.type_list_append mt_append (pv 8) (pa_cons (pv 5) pa_nil)))) pss_nil)))))))))
      (pss_cons (ps_if (pt_cmpR op_lt (pv 9) (pv 0) (nomark _))
        (pss_one (ps_ret pe_non)) pss_nil)
      (pss_one (ps_ret (pe_tupleOf (by rfl) B.tuple (pv 7)))))))))))), ?_⟩
    -- left = [0] * many
    refine ⟨by show 1 ≤ sizeLine; omega, fun t0 nt0 => ⟨_, rfl, t0, _, _, rfl, rfl, upd_same, by omega, by omega, by show 1 * ((n : Int)).toNat ≤ sizeLine; omega, fun L nL => ?_⟩⟩
    have nL0 : H L = none := (same_upd nt0).free nL
    have s1 : Same H (upd (upd H t0 (.lst [.int 0])) L (.lst (List.replicate ((n : Int)).toNat [.int 0]).flatten)) := same_put (same_upd nt0) nL0
    have eL1 : upd (upd H t0 (.lst [.int 0])) L (.lst (List.replicate ((n : Int)).toNat [.int 0]).flatten) L = some (.lst ((List.replicate n 0).map nV)) := by rw [upd_same, zeros]
    generalize upd (upd H t0 (.lst [.int 0])) L (.lst (List.replicate ((n : Int)).toNat [.int 0]).flatten) = H1 at s1 eL1 ⊢
    dsimp only [gName]
    refine st_eq (σ' := [some (nV n), some (.ref a), some (.ref L), none, none, none, none, none, none, none]) rfl ?_
    -- users
    refine ⟨_, rfl, _, rfl, by omega, by omega, fun U nU => ?_⟩
    have nU0 : H U = none := s1.free nU
    have LU : L ≠ U := ne_of_none eL1 nU
    rw [show ((n : Int)).toNat = n from Int.toNat_natCast n]
    refine lc_range (n := n) (fun i H2 => Same H H2 ∧ H2 L = some (.lst ((List.replicate n 0).map nV)) ∧ ∃ us : List Addr, H2 U = some (.lst (us.map V.ref)) ∧ us.length = i ∧ us.Nodup ∧ (∀ u ∈ us, H2 u = some (.lst []) ∧ H u = none ∧ u ≠ L ∧ u ≠ U))
      ⟨same_put s1 nU0, by rw [upd_ne LU]; exact eL1, [], upd_same, rfl, .nil, fun u hu => nomatch hu⟩ ?_ ?_
    · rintro i H2 hi ⟨s2, e2, us, eU, hul, hud, hu⟩
      refine ⟨rfl, Nat.zero_le _, fun u nu => ?_⟩
      have nu0 : H u = none := s2.free nu
      have uL : L ≠ u := ne_of_none e2 nu
      have uU : U ≠ u := ne_of_none eU nu
      have uu : ∀ v ∈ us, v ≠ u := fun v hv => ne_of_none (hu v hv).1 nu
      refine ⟨_, by rw [upd_ne uU]; exact eU, by rw [List.length_map]; omega, same_put (same_put s2 nu0) nU0, by rw [upd_ne LU, upd_ne uL]; exact e2, us ++ [u], by rw [upd_same, List.map_append]; rfl, by rw [List.length_append, hul]; rfl, ?_, fun v hv => ?_⟩
      · exact List.nodup_append.mpr ⟨hud, by simp, fun x hx y hy => by rw [List.mem_singleton.mp hy]; exact uu x hx⟩
      · rcases List.mem_append.mp hv with h | h
        · obtain ⟨h1, h2, h3, h4⟩ := hu v h
          exact ⟨by rw [upd_ne h4, upd_ne (uu v h)]; exact h1, h2, h3, h4⟩
        · rw [List.mem_singleton.mp h]
          exact ⟨by rw [upd_ne uU.symm, upd_same], nu0, uL.symm, uU.symm⟩
    rintro H2 ⟨s2, e2, us, eU, hul, hud, hu⟩
    dsimp only [gName]
    refine st_eq (σ' := [some (nV n), some (.ref a), some (.ref L), some (.ref U), none, none, none, none, none, none]) rfl ?_
    -- the needs, one behind another
    refine ⟨_, rfl, a, rfl, ⟨_, same_seqT s2 hS⟩, for_it (walk_tup (K := K) (a := a) (xs := rs.map V.ref)) (fun i σ H3 => ∃ (l : List Nat) (x5 x6 : Option V), σ = [some (nV n), some (.ref a), some (.ref L), some (.ref U), none, x5, x6, none, none, none] ∧
        Same H H3 ∧ H3 L = some (.lst (l.map nV)) ∧ l.length = n ∧ (∀ c, c < n → l[c]? = some (cnt (ns.take i) (fun _ => false) c)) ∧ H3 U = some (.lst (us.map V.ref)) ∧ ∀ (o : Nat) (u : Addr), us[o]? = some u → H3 u = some (.lst ((usersOf (ns.take i) o).map nV)))
      ⟨List.replicate n 0, none, none, rfl, s2, e2, by simp, fun c hc => by rw [List.getElem?_replicate, if_pos hc]; rfl, eU, fun o u e => (hu u (List.mem_of_getElem? e)).1⟩ (fun i σ H3 _ ⟨_, _, _, _, z, _⟩ => same_seqT z hS) ?_ ?_⟩
    · rintro i x σ H3 H4 hi ⟨l, x5, x6, rfl, s3, eL, hll, hlc, eU3, hu3⟩ ⟨rfl, ex⟩
      rw [List.length_map, hrl] at hi
      have ei : ns[i]? = some ns[i] := List.getElem?_eq_getElem hi
      generalize ns[i] = p at ei
      obtain ⟨c, o⟩ := p
      rw [List.getElem?_map] at ex
      cases er : rs[i]? with
      | none => rw [er] at ex; cases ex
      | some r =>
        rw [er] at ex
        cases ex
        have hr2 := same_seqT s3 (hrs i r (c, o) er ei)
        obtain ⟨hc, ho⟩ := hb (c, o) (List.mem_of_getElem? ei)
        refine ⟨r, _, rfl, hr2, rfl, _, _, rfl, _, [], rfl, rfl, ?_⟩
        refine st_eq (σ' := [some (nV n), some (.ref a), some (.ref L), some (.ref U), none, some (nV c), some (nV o), none, none, none]) rfl ?_
        have hlc' := hlc c hc
        refine ⟨_, rfl, _, rfl, L, _, c, _, rfl, rfl, .inl (.inl eL), map_get hlc', _, _, rfl, rfl, L, _, _, c, rfl, rfl, eL, by rw [List.length_map, hll]; exact ixN_nat hc, ?_⟩
        have esum : V.int (((cnt (ns.take i) (fun _ => false) c : Nat) : Int) + 1) = nV (cnt (ns.take i) (fun _ => false) c + 1) := rfl
        have hol : o < us.length := by rw [hul]; exact ho
        have hou : us[o]? = some us[o] := List.getElem?_eq_getElem hol
        generalize us[o] = u at hou
        have huL : u ≠ L := (hu u (List.mem_of_getElem? hou)).2.2.1
        have huU : u ≠ U := (hu u (List.mem_of_getElem? hou)).2.2.2
        have hu0 : H u = none := (hu u (List.mem_of_getElem? hou)).2.1
        have tk := take_one ei
        have len1 : (usersOf (ns.take i) o).length ≤ 1000000 := by
          unfold usersOf
          rw [List.length_map]
          refine Nat.le_trans (List.length_filter_le _ _) ?_
          rw [List.length_take]
          omega
        refine ⟨_, rfl, _, rfl, U, _, _, .ref u, rfl, rfl, .inl (.inl (by rw [upd_ne LU.symm]; exact eU3)), at_of (j := o) rfl (by rw [List.getElem?_map, hou]; rfl), .inl ⟨rfl, _, .inl (.inl (by rw [upd_ne huL]; exact hu3 o u hou))⟩, _, rfl, u, _, _, rfl, rfl, by rw [upd_ne huL]; exact hu3 o u hou, by rw [List.length_map]; omega, ?_⟩
        refine ⟨l.set c (cnt (ns.take i) (fun _ => false) c + 1), _, _, rfl, same_put (same_put s3 nL0) hu0, ?_, by rw [List.length_set]; exact hll, fun d hd => ?_, ?_, fun o' u' e' => ?_⟩
        · rw [upd_ne huL.symm, upd_same, ← map_set]
          rfl
        · rw [tk, cnt_snoc]
          by_cases h : c = d
          · subst h
            rw [List.getElem?_set_self (by omega), if_pos rfl]
          · rw [List.getElem?_set_ne h, hlc d hd, if_neg h]
            rfl
        · rw [upd_ne huU.symm, upd_ne LU.symm]
          exact eU3
        · rw [tk, users_snoc]
          by_cases h : o = o'
          · subst h
            have : u = u' := Option.some.inj (hou.symm.trans e')
            subst this
            rw [upd_same, if_pos rfl, List.map_append]
            rfl
          · have huu : u' ≠ u := fun z => h (by
              subst z
              exact nd_ix hud hou e')
            rw [upd_ne huu, upd_ne ((hu u' (List.mem_of_getElem? e')).2.2.1), hu3 o' u' e', if_neg h, List.append_nil]
    rintro σ H3 ⟨l, x5, x6, rfl, s3, eL, hll, hlc, eU3, hu3⟩
    rw [List.length_map, hrl, List.take_length] at hlc hu3
    -- far = [0] * many
    dsimp only [tSeq]
    refine ⟨by show 1 ≤ sizeLine; omega, fun t1 nt1 => ⟨_, rfl, t1, _, _, rfl, rfl, upd_same, by omega, by omega, by show 1 * ((n : Int)).toNat ≤ sizeLine; omega, fun F nF => ?_⟩⟩
    have nF3 : H3 F = none := (same_upd nt1).free nF
    have s4 : Same H3 (upd (upd H3 t1 (.lst [.int 0])) F (.lst (List.replicate ((n : Int)).toNat [.int 0]).flatten)) := same_put (same_upd nt1) nF3
    have eF1 : upd (upd H3 t1 (.lst [.int 0])) F (.lst (List.replicate ((n : Int)).toNat [.int 0]).flatten) F = some (.lst ((List.replicate n 0).map nV)) := by rw [upd_same, zeros]
    have nF0 : H F = none := s3.free nF3
    have LF : L ≠ F := ne_of_none eL nF3
    have UF : U ≠ F := ne_of_none eU3 nF3
    have uF : ∀ u ∈ us, u ≠ F := fun u h => by
      obtain ⟨o, ho, e⟩ := List.mem_iff_getElem.mp h
      exact ne_of_none (hu3 o u (by rw [List.getElem?_eq_getElem ho, e])) nF3
    generalize upd (upd H3 t1 (.lst [.int 0])) F (.lst (List.replicate ((n : Int)).toNat [.int 0]).flatten) = H5 at s4 eF1 ⊢
    dsimp only [gName]
    refine st_eq (t := tSeq _ _) (σ' := [some (nV n), some (.ref a), some (.ref L), some (.ref U), none, x5, x6, some (.ref F), none, none]) rfl ?_
    -- what is ready
    refine ⟨_, rfl, _, rfl, by omega, by omega, fun R nR => ?_⟩
    rw [show ((n : Int)).toNat = n from Int.toNat_natCast n]
    have s5 := s3.trans s4
    have nR0 : H R = none := s5.free nR
    have LR : L ≠ R := ne_of_none (s4 _ _ eL) nR
    have UR : U ≠ R := ne_of_none (s4 _ _ eU3) nR
    have FR : F ≠ R := ne_of_none eF1 nR
    have uR : ∀ u ∈ us, u ≠ R := fun u h => by
      obtain ⟨o, ho, e⟩ := List.mem_iff_getElem.mp h
      exact ne_of_none (s4 _ _ (hu3 o u (by rw [List.getElem?_eq_getElem ho, e]))) nR
    have A : Ap L U F R us := ⟨LU, LF, LR, UF.symm, UR.symm, FR, fun u h => (hu u h).2.2.1, uF, uR⟩
    refine lc_range (n := n) (fun i H6 => Same H5 H6 ∧ ∃ r : List Nat, H6 R = some (.lst (r.map nV)) ∧ r.length ≤ i ∧ r.Nodup ∧ ∀ c, c ∈ r ↔ c < i ∧ cnt ns (fun _ => false) c = 0)
      ⟨same_upd nR, [], upd_same, Nat.zero_le _, .nil, fun c => by simp⟩ ?_ ?_
    · rintro i H6 hi ⟨s6, r, eR, hrl2, hrd, hrm⟩
      have hli := hlc i hi
      have e0 : (0 : Int) + (i : Int) = (i : Int) := by omega
      rw [e0]
      refine ⟨rfl, _, rfl, _, rfl, L, _, _, nV (cnt ns (fun _ => false) i), rfl, rfl, .inl (.inl (s6 _ _ (s4 _ _ eL))), at_of (j := i) rfl (map_get hli), rfl, _, rfl, ite_ok (fun hz => ?_) fun hz => ?_⟩
      · have hz' : cnt ns (fun _ => false) i = 0 := by
          injection hz with z
          omega
        refine ⟨_, rfl, _, eR, by rw [List.length_map]; omega, same_put s6 nR, r ++ [i], by rw [upd_same, List.map_append]; rfl, by rw [List.length_append]; exact Nat.succ_le_succ hrl2, ?_, fun c => ?_⟩
        · exact List.nodup_append.mpr ⟨hrd, by simp, fun x hx y hy => by
            rw [List.mem_singleton.mp hy]
            have := ((hrm x).mp hx).1
            omega⟩
        · rw [List.mem_append, List.mem_singleton, hrm c]
          constructor
          · rintro (⟨h1, h2⟩ | rfl)
            · exact ⟨by omega, h2⟩
            · exact ⟨by omega, hz'⟩
          · rintro ⟨h1, h2⟩
            by_cases h : c = i
            · exact .inr h
            · exact .inl ⟨by omega, h2⟩
      · have hz' : cnt ns (fun _ => false) i ≠ 0 := fun z => hz (by rw [z]; rfl)
        refine ⟨s6, r, eR, by omega, hrd, fun c => ?_⟩
        rw [hrm c]
        constructor
        · rintro ⟨h1, h2⟩; exact ⟨by omega, h2⟩
        · rintro ⟨h1, h2⟩
          have : c ≠ i := fun z => hz' (z ▸ h2)
          exact ⟨by omega, h2⟩
    rintro H6 ⟨s6, r, eR, hrl2, hrd, hrm⟩
    have Q0 : Hq ns L U F R us l (List.replicate n 0) r H6 := ⟨s6 _ _ (s4 _ _ eL), s6 _ _ (s4 _ _ eU3), s6 _ _ eF1, eR, fun o u e => s6 _ _ (s4 _ _ (hu3 o u e))⟩
    have W0 : Wk ns n (fun p => decide (p.2 ∈ ([] : List Nat))) [] r l (List.replicate n 0) := by
      have hP : ∀ p ∈ ns, (fun _ => false) p = decide (p.2 ∈ ([] : List Nat)) := fun p _ => by simp
      refine Wk.congr ⟨hll, by simp, hlc, fun c m e => ?_, hrd, fun c => ?_, fun d hd => nomatch hd⟩ hP
      · rw [List.getElem?_replicate] at e
        split at e
        · cases e
          intro o
          simp
        · cases e
      · rw [hrm c]
        simp
    have s7 := s5.trans s6
    dsimp only [gName]
    refine st_eq (t := tSeq _ _) (σ' := [some (nV n), some (.ref a), some (.ref L), some (.ref U), none, x5, x6, some (.ref F), some (.ref R), none]) rfl ?_
    dsimp only [tSeq, tAsg, tC, gName]
    refine st_eq (t := tWhile _ _) (σ' := [some (nV n), some (.ref a), some (.ref L), some (.ref U), none, x5, x6, some (.ref F), some (.ref R), some (nV 0)]) rfl ?_
    clear s6 s4 eR eF1 hrm hlc hu3 eL eU3 s3 hll
    refine while_by (fun σ H7 => ∃ (D r l f : List Nat) (x5 x6 : Option V), σ = [some (nV n), some (.ref a), some (.ref L), some (.ref U), none, x5, x6, some (.ref F), some (.ref R), some (nV D.length)] ∧ Same H H7 ∧ Hq ns L U F R us l f r H7 ∧ Wk ns n (fun p => decide (p.2 ∈ D)) D r l f ∧ Topo ns D)
      (fun (σ : L2.St) (_ : Hp) => match σ with | [_, _, _, _, _, _, _, _, _, some (V.int k)] => n - k.toNat | _ => 0)
      ⟨[], r, l, List.replicate n 0, x5, x6, rfl, s7, Q0, W0, .nil⟩ ?_ ?_
    · rintro σ H7 ⟨D, r, l, f, x5, x6, rfl, s8, Q8, W8, T8⟩
      refine ⟨_, rfl, _, .inl ⟨_, .inl (.inl Q8.eR), rfl⟩, ite_b (fun hk => ?_) fun hk => ?_⟩
      · obtain ⟨r', x, rfl⟩ : ∃ r' x, r = r' ++ [x] := by
          rcases List.eq_nil_or_concat r with h | ⟨r', x, h⟩
          · subst h; simp at hk
          · exact ⟨r', x, by rw [h, List.concat_eq_append]⟩
        obtain ⟨W9, T9, hx⟩ := W8.take T8
        have hdl : D.length + 1 ≤ n := nodup_below (topo_nodup T9) fun d hd => (W9.vz d hd).1
        have hxD : x ∉ D := by
          cases T9 with
          | cons _ h _ => exact h
        refine ⟨_, rfl, .inl ⟨rfl, _, .inl (.inl Q8.eR)⟩, R, _, nV x, rfl, rfl, Q8.eR, by simp, ?_⟩
        have ed : ((r' ++ [x]).map nV).dropLast = r'.map nV := by simp
        rw [ed]
        have Q9 : Hq ns L U F R us l f r' (upd H7 R (.lst (r'.map nV))) := Q8.putR A
        have s9 : Same H (upd H7 R (.lst (r'.map nV))) := same_put s8 nR0
        generalize upd H7 R (.lst (r'.map nV)) = H8 at Q9 s9 ⊢
        dsimp only [gName]
        refine st_eq (t := tSeq _ _) (σ' := [some (nV n), some (.ref a), some (.ref L), some (.ref U), none, x5, some (nV x), some (.ref F), some (.ref R), some (nV D.length)]) rfl ?_
        refine ⟨_, rfl, _, _, rfl, rfl, ?_⟩
        dsimp only
        refine st_eq (t := tFor _ _ _) (σ' := [some (nV n), some (.ref a), some (.ref L), some (.ref U), none, x5, some (nV x), some (.ref F), some (.ref R), some (nV (D.length + 1))]) rfl ?_
        have hxu : x < us.length := by omega
        have hou : us[x]? = some us[x] := List.getElem?_eq_getElem hxu
        generalize us[x] = u at hou
        have pow1 : (1 : Int) * 2 ^ ((x : Int)).toNat = ((2 ^ x : Nat) : Int) := by
          rw [Int.toNat_natCast]
          simp
        refine ⟨_, rfl, _, rfl, U, _, _, .ref u, rfl, rfl, .inl (.inl Q9.eU), at_of (j := x) rfl (by rw [List.getElem?_map, hou]; rfl), u, rfl, ⟨_, .inl (.inl (Q9.eu x u hou))⟩, for_list (K := K) (a := u) (xs := (usersOf ns x).map nV)
          (fun j σ H9 => ∃ (r l f : List Nat) (x5 : Option V), σ = [some (nV n), some (.ref a), some (.ref L), some (.ref U), none, x5, some (nV x), some (.ref F), some (.ref R), some (nV (D.length + 1))] ∧ Same H H9 ∧ Hq ns L U F R us l f r H9 ∧
            Wk ns n (fun p => decide (p.2 ∈ D) || (decide (p.2 = x) && decide (p.1 ∈ (usersOf ns x).take j))) (x :: D) r l f)
          ⟨r', l, f, x5, rfl, s9, Q9, W9.congr fun p _ => by simp⟩ (fun j σ H9 _ ⟨_, _, _, _, _, _, q, _⟩ => .inl (.inl (q.eu x u hou))) ?_ ?_⟩
        · rintro j y σ H9 hj ⟨r, l, f, x5, rfl, s10, Q10, W10⟩
          rw [List.getElem?_map] at hj
          cases ec : (usersOf ns x)[j]? with
          | none => rw [ec] at hj; cases hj
          | some c =>
            rw [ec] at hj
            cases hj
            have hcm := mem_usersOf.mp (List.mem_of_getElem? ec)
            have hc := (hb _ hcm).1
            have cl : c < l.length := by rw [W10.ll]; exact hc
            have cf : c < f.length := by rw [W10.lf]; exact hc
            have xf : x < f.length := by rw [W10.lf]; exact hx
            have el : l[c]? = some l[c] := List.getElem?_eq_getElem cl
            have ef : f[c]? = some f[c] := List.getElem?_eq_getElem cf
            have eo : f[x]? = some f[x] := List.getElem?_eq_getElem xf
            generalize l[c] = lc at el
            generalize f[c] = mc at ef
            generalize f[x] = mo at eo
            have hnt : c ∉ (usersOf ns x).take j := fun h => by
              obtain ⟨k, hk1, hk2⟩ := List.mem_iff_getElem.mp h
              rw [List.getElem_take] at hk2
              have hk3 : (usersOf ns x)[k]? = some c := by rw [← hk2]; exact List.getElem?_eq_getElem _
              have := nd_ix (nodup_usersOf hnd) hk3 ec
              rw [List.length_take] at hk1
              omega
            obtain ⟨hcx, hl1, W11⟩ := W10.step hnd hcm (by simp [hxD, hnt]) hc List.mem_cons_self el ef eo
            have W12 := W11.congr (P' := fun p => decide (p.2 ∈ D) || (decide (p.2 = x) && decide (p.1 ∈ (usersOf ns x).take (j + 1)))) fun p hp => by
              obtain ⟨p1, p2⟩ := p
              rw [take_one ec]
              by_cases h1 : p2 = x
              · subst h1
                by_cases h2 : p1 = c
                · subst h2; simp
                · simp [h2]
              · simp [h1]
            have keyF : (f.map nV).set c (V.int (Builtin.bitOr (mc : Int) (Builtin.bitOr (mo : Int) ((1 : Int) * 2 ^ ((x : Int)).toNat)))) = (f.set c (mc ||| (mo ||| 2 ^ x))).map nV := by
              rw [pow1, bor_nat, bor_nat, ← map_set]
            have keyL : (l.map nV).set c (V.int ((lc : Int) - 1)) = (l.set c (lc - 1)).map nV := by
              rw [← map_set]
              congr 2
              omega
            dsimp only [gName]
            refine st_eq (t := tSeq _ _) (σ' := [some (nV n), some (.ref a), some (.ref L), some (.ref U), none, some (nV c), some (nV x), some (.ref F), some (.ref R), some (nV (D.length + 1))]) rfl ?_
            refine ⟨_, rfl, _, rfl, F, _, c, nV mc, rfl, rfl, .inl (.inl Q10.eF), map_get ef, _, rfl, _, rfl, F, _, _, nV mo, rfl, rfl, .inl (.inl Q10.eF), at_of (j := x) rfl (map_get eo), _, rfl, _, _, rfl, rfl, ⟨by omega, by omega, by decide⟩, _, _, rfl, rfl, _, _, rfl, rfl, F, _, _, c, rfl, rfl, Q10.eF, by rw [List.length_map]; exact ixN_nat cf, ?_⟩
            dsimp only
            rw [keyF]
            have Q11 := Q10.putF (f' := f.set c (mc ||| (mo ||| 2 ^ x))) A
            have s11 := same_put (o := .lst ((f.set c (mc ||| (mo ||| 2 ^ x))).map nV)) s10 nF0
            generalize upd H9 F (.lst ((f.set c (mc ||| (mo ||| 2 ^ x))).map nV)) = H10 at Q11 s11 ⊢
            refine ⟨_, rfl, _, rfl, L, _, c, nV lc, rfl, rfl, .inl (.inl Q11.eL), map_get el, _, _, rfl, rfl, L, _, _, c, rfl, rfl, Q11.eL, by rw [List.length_map]; exact ixN_nat cl, ?_⟩
            dsimp only
            rw [keyL]
            have Q12 := Q11.putL (l' := l.set c (lc - 1)) A
            have s12 := same_put (o := .lst ((l.set c (lc - 1)).map nV)) s11 nL0
            generalize upd H10 L (.lst ((l.set c (lc - 1)).map nV)) = H11 at Q12 s12 ⊢
            refine ⟨_, rfl, _, rfl, L, _, _, nV (lc - 1), rfl, rfl, .inl (.inl Q12.eL), at_of (j := c) rfl (map_get (by rw [List.getElem?_set_self cl])), rfl, _, rfl, ite_ok (fun hz => ?_) fun hz => ?_⟩
            · have hz' : lc - 1 = 0 := by
                injection hz with z
                omega
              rw [if_pos hz'] at W12
              have rl : r.length ≤ n := nodup_below W10.rn fun d hd => ((W10.rm d).mp hd).1
              refine ⟨_, rfl, .inl ⟨rfl, _, .inl (.inl Q12.eR)⟩, _, rfl, R, _, _, rfl, rfl, Q12.eR, by rw [List.length_map]; omega, ?_⟩
              refine ⟨r ++ [c], _, _, _, rfl, same_put s12 nR0, ?_, W12⟩
              rw [show r.map nV ++ [nV c] = (r ++ [c]).map nV by rw [List.map_append]; rfl]
              exact Q12.putR A
            · have hz' : ¬ lc - 1 = 0 := fun z => hz (by rw [z]; rfl)
              rw [if_neg hz'] at W12
              exact ⟨r, _, _, _, rfl, s12, Q12, W12⟩
        · rintro σ H9 ⟨r, l, f, x5, rfl, s10, Q10, W10⟩
          rw [List.length_map, List.take_length] at W10
          have W11 := W10.congr (P' := fun p => decide (p.2 ∈ x :: D)) fun p hp => by
            obtain ⟨p1, p2⟩ := p
            by_cases h1 : p2 = x
            · subst h1
              simp [mem_usersOf.mpr hp]
            · simp [h1]
          refine ⟨⟨x :: D, r, l, f, x5, _, rfl, s10, Q10, W11, T9⟩, ?_⟩
          show n - ((D.length + 1 : Nat) : Int).toNat < n - ((D.length : Nat) : Int).toNat
          omega
      · have hr : r = [] := by
          cases r with
          | nil => rfl
          | cons a b => simp at hk
        subst hr
        obtain ⟨d1, d2, d3⟩ := W8.done T8 hb
        refine ⟨_, rfl, _, rfl, _, _, rfl, rfl, _, rfl, ite_ok (fun hz => ?_) fun hz => ?_⟩
        · exact q2 H7 s8 (d2 (by omega))
        · refine ⟨_, rfl, .inl ⟨F, _, rfl, .inl (.inl Q8.eF), fun p np => ?_⟩⟩
          exact q1 p _ f (same_put s8 (s8.free np)) (s8.free np) upd_same (d1 (by omega))
    · rintro σ H7 Q1 Q2 hq ⟨v, e, k, t, z⟩
      exact ⟨v, e, k, t, hq _ _ z⟩
end
end Rip

/-! enumerate of a tuple: no module of the layer has it. -/
namespace PySem
open Sem (wp)
open AutoSeq1 (wpAny_loadPart')
abbrev ripIt (l : Addr) : Obj := { cls := .type "tuple_iterator", data := .fields #[.ref l, .int 0 0] }
abbrev ripEn (i : Addr) : Obj := { cls := .type "enumerate", data := .fields #[.none, .bool false, .ref i, rawInt 0, .none, .none] }
theorem rip_enum_new (l : Addr) (items : Array Value) (n : Nat) (dct : Option Addr) (sl : Array (Option Value)) :
    Meets (Builtin.«enumerate.__new__» ⟨[.type "enumerate", .ref l], []⟩)
      (fun _ R s => s.heap.get? l = some { cls := .type "tuple", dict := dct, data := .seq items n, slots := sl } ∧
        R (.ok (.ret (.ref (s.heap.push (ripIt l)).objs.size)))
          { s with heap := (s.heap.push (ripIt l)).push (ripEn s.heap.objs.size) }) :=
  .of_wp fun prog w A R s h => by
    obtain ⟨hp, g, d, tk, os⟩ := s
    obtain ⟨hl, h⟩ := h
    have hsub := sub_enumerate
    have hL : Heap.IsTuple (Shared.heap ⟨hp, g, d, tk, os⟩) l items := ⟨_, hl, rfl, n, rfl⟩
    wp_walk using wpAny_loadPart' hl
    refine wpAny_stack_any fun st => wpAny_pure ?_
    split
    · rename_i c _ _ _ _ _
      cases (c == Value.type "enumerate")
      · wp_walk using wpAny_loadPart' hl, wpAny_pyIter_tuple hL
        exact ⟨_, rfl, h⟩
      · wp_walk using wpAny_loadPart' hl, wpAny_pyIter_tuple hL
        exact ⟨_, rfl, h⟩
    · wp_walk using wpAny_loadPart' hl, wpAny_pyIter_tuple hL
      exact ⟨_, rfl, h⟩
section
variable {prog : Program} {w : World} {A : Around} {E : Value → Shared → Prop} {s : Shared}
theorem rip_call_enum {l : Addr} {items : Array Value} {Q : Value → Shared → Prop} (hL : s.heap.IsTuple l items)
    (h : ∀ h', IsEnum h' (s.heap.objs.size + 1) s.heap.objs.size 0 .none → h'.IsTupleIter s.heap.objs.size l 0 →
      (∀ b o, s.heap.get? b = some o → h'.get? b = some o) → Q (.ref (s.heap.objs.size + 1)) { s with heap := h' }) :
    wpAny (model prog w) A (call (.type "enumerate") [.ref l]) Q E s := by
  obtain ⟨⟨c, dct, dt, sl⟩, hl, hc, n, hd⟩ := hL
  replace hc : c = .type "tuple" := hc
  replace hd : dt = .seq items n := hd
  subst hc hd
  refine callType_new F.called_enumerate (by decide) (F.typeCall_enumerate_1 _) (F.newCall_enumerate_1 _)
    (fun obj => F.args_object_init_2 obj _) F.entry_enumerate_new (rip_enum_new l items n dct sl) ⟨hl, ?_⟩
  have hz : (s.heap.push (ripIt l)).objs.size = s.heap.objs.size + 1 := Heap.size_push ..
  show _ ∧ _
  rw [hz]
  have he : IsEnum ((s.heap.push (ripIt l)).push (ripEn s.heap.objs.size)) (s.heap.objs.size + 1) s.heap.objs.size 0 .none := by
    have z := Heap.get?_push_size (s.heap.push (ripIt l)) (o := ripEn s.heap.objs.size) rfl
    rw [hz] at z
    exact z
  refine ⟨⟨_, he, rfl⟩, h _ he ⟨_, Heap.get?_push_of_some _ (Heap.get?_push_size _ rfl), rfl, rfl⟩ fun b o x => ?_⟩
  exact Heap.get?_push_of_some _ (Heap.get?_push_of_some _ x)
theorem rip_draws_tup (hh : A.handled = none) (it l : Addr) (hne : l ≠ it) (items : Array Value) :
    Draws prog w A it [it, l] items.size (fun i v => items[i]? = some v) (fun i h => h.IsTupleIter it l i ∧ h.IsTuple l items) where
  live := fun _ _ st => let ⟨o, ho, _⟩ := st.1; ⟨o, ho⟩
  frame := fun _ _ _ ⟨a, o, ho, r⟩ hk => ⟨a.at fun o e => hk it (by simp) o e, o, hk l (by simp) o ho, r⟩
  item := fun i s Q E hi ⟨a, b⟩ hQ => by
    refine RZ.nextOf_tuple_item a b (x := items[i]) (by simp [hi]) fun h' hit' hs' => ?_
    obtain ⟨o, ho, r⟩ := b
    exact hQ _ h' s.toks (by simp [hi]) ⟨hit', o, hs'.extBut _ _ hne ho, r⟩ hs'
  done := fun s Q E st hE => RZ.nextOf_tuple_end hh st.1 st.2 (by simp) hE
theorem rip_draws_end (hh : A.handled = none) (it l : Addr) (items : Array Value) (i : Nat) (hx : items[i]? = none) :
    Draws prog w A it [it, l] 0 (fun _ _ => True) (fun _ h => h.IsTupleIter it l i ∧ h.IsTuple l items) where
  live := fun _ _ st => let ⟨o, ho, _⟩ := st.1; ⟨o, ho⟩
  frame := fun _ _ _ ⟨a, o, ho, r⟩ hk => ⟨a.at fun o e => hk it (by simp) o e, o, hk l (by simp) o ho, r⟩
  item := fun i s Q E hi _ _ => absurd hi (Nat.not_lt_zero _)
  done := fun s Q E st hE => RZ.nextOf_tuple_end hh st.1 st.2 hx hE
end
end PySem
namespace Rip
open PySem PySem.Spec PyProof.Rows L2
/-- the tuple at a, each item in a new pair -/
def IteT (K : PySem.W.Frag) (a : Addr) : It :=
  ⟨fun i H => ∃ (xs : List V) (x : V), SqT K H a xs ∧ xs[i]? = some x,
    fun i H v H' => ∃ T x, v = .ref T ∧ H T = none ∧ H' = upd H T (.tup [.int (i : Nat), x]) ∧ ∀ xs, SqT K H a xs → xs[i]? = some x,
    fun i H => ∃ xs : List V, SqT K H a xs ∧ xs.length ≤ i⟩
theorem turn_enumT {P : Program} {w : World} {K : PySem.W.Frag} {elts : List Expr} {kk : Nat} {tpos : Pos} (a e it : Addr) (ait : a ≠ it) (ae : a ≠ e) :
    Turn P w K (.Tuple elts kk tpos) (IteT K a) [e, it] e (fun i h => (∃ old, IsEnum h e it ((i : Nat) : Int) old) ∧ h.IsTupleIter it a i ∧ e ≠ it) where
  mem := by simp
  obj := fun i h st b hb => by
    obtain ⟨⟨old, he⟩, ⟨o, ho, hc, hd⟩, _⟩ := st
    rcases (show b = e ∨ b = it by simpa using hb) with z | z
    · rw [z]; exact ⟨_, he, fun v q => nomatch q⟩
    · rw [z]; exact ⟨o, ho, fun v q => by rw [hd] at q; cases q⟩
  keep := fun i h h' st k => let ⟨⟨old, he⟩, hi, hne⟩ := st; ⟨⟨old, k e (by simp) _ he⟩, hi.at fun o q => k it (by simp) o q, hne⟩
  item := by
    intro X hP hw hK hc i pins s σ H E I hf st hg
    subst hP hw hK
    obtain ⟨⟨old, he⟩, hit, hne⟩ := st
    obtain ⟨xs, x, hq, hx⟩ := hg
    obtain ⟨its, rv, p, hz⟩ := I.tuple hq
    obtain ⟨u, hu, ru⟩ := rv.get hx
    have hel : e < s.heap.objs.size := Heap.lt_size he
    have hil : it < s.heap.objs.size := by obtain ⟨_, q, _⟩ := hit; exact Heap.lt_size q
    have hlt : i < its.toArray.size := by
      have := (List.getElem?_eq_some_iff.mp hu).1
      simpa using this
    have D := rip_draws_tup (prog := X.prog) (w := X.w) (A := X.A.in1) (I.ok.hd hc) it a ait its.toArray
    refine wpAny_pyNext_enum_itemD D he ⟨hit, p⟩ hlt hne (by simp only [List.mem_cons, List.not_mem_nil, or_false, not_or]; exact ⟨hne, ae.symm⟩) fun y h' tk hy ho hst hT hsz hk => ?_
    have ey : y = u := by
      have z : its.toArray[i]? = some u := by simpa using hu
      exact Option.some.inj (hy.symm.trans z)
    subst ey
    refine ⟨_, rfl, wpAny_letOwnedTupleGo_enum (s := { s with heap := h', toks := tk + 1 }) ho fun h'' he' sb => ?_⟩
    have hT2 : h''.get? s.heap.objs.size = some { cls := .type "tuple", data := .seq #[.int i tk, y] } := (sb.2 _ (Nat.ne_of_gt hel)).trans hT
    have new : ObjOk X.prog X.w (upd H s.heap.objs.size (.tup [.int (i : Nat), x])) h'' s.heap.objs.size (.tup [.int (i : Nat), x]) :=
      ⟨by show 2 ≤ sizeLine; decide, [.int i tk, y], .cons ⟨_, rfl⟩ (.cons ru .nil), ⟨_, hT2, rfl, _, rfl⟩⟩
    have I1 : Inv X pins σ (upd H s.heap.objs.size (.tup [.int (i : Nat), x])) { s with heap := h'', toks := tk + 1 } :=
      I.turnedNew (ch := [e, it]) (fun b ob hb q => (sb.2 b (fun z => hb (by simp [z]))).trans
        (hk b ob (fun z => hb (by simp [z])) (fun z => hb (by simp [z])) q)) hf (Nat.le_refl _) new
    refine ⟨.ref s.heap.objs.size, _, I1, rfl, ⟨_, x, rfl, I.hok.fresh (Nat.le_refl _), rfl, fun ys hy => by rw [I.tuple_inj hy hq]; exact hx⟩,
      ⟨⟨y, ?_⟩, hst.1.at fun o q => (sb.2 it (Ne.symm hne)).trans q, hne⟩, fun b hb => ?_⟩
    · rw [show ((i + 1 : Nat) : Int) = (i : Int) + 1 by omega]
      exact he'
    · have hb' : b < s.heap.objs.size := by
        rcases (show b = e ∨ b = it by simpa using hb) with z | z
        · rw [z]; exact hel
        · rw [z]; exact hil
      rw [upd_ne (Nat.ne_of_lt hb')]
      exact (hf b hb).1
  done := by
    intro X hP hw hK hc i pins s σ H E I hf st hg
    subst hP hw hK
    obtain ⟨⟨old, he⟩, hit, hne⟩ := st
    obtain ⟨xs, hq, hx⟩ := hg
    obtain ⟨its, rv, p, hz⟩ := I.tuple hq
    obtain ⟨f0, f1, f2, f3, f4, f5⟩ := hf it (by simp)
    have hl := rv.length
    have D := rip_draws_end (prog := X.prog) (w := X.w) (A := X.A.in1) (I.ok.hd hc) it a its.toArray i (by simp; omega)
    exact wpAny_pyNext_enum_endD D he ⟨hit, p⟩ fun h' eb => ⟨rfl, I.turned (t' := s.toks) (fun b o hb q => eb b o hb q) f0 f1 f3 f4 f5⟩
  self := fun A i s Q E st h => let ⟨⟨_, he⟩, _⟩ := st; wpAny_pyIter_enum he h
def iEnumT (K : PySem.W.Frag) (ta : TA) : TI := fun σ H R => ta σ H fun vs H1 => ∃ a xs, vs = [.ref a] ∧ SqT K H1 a xs ∧ R (IteT K a) H1
theorem pi_enumT {X : Cx} {e : Expr} {ta : TA} {p pos tpos : Pos} {elts : List Expr} {kk : Nat} (hg : Gl X "enumerate") (hm : X.mg "enumerate" = none) (ha : PA X [e] ta) (hs : starEach [e] X.env = [(false, eval e X.env)] := by rfl) :
    PI X (.Tuple elts kk tpos) (.Call (.Name "enumerate" p) [e] [] pos) (iEnumT X.K ta) := by
  refine ⟨fun pins s σ H R I h => ?_⟩
  refine Call_ (ld_blt I hg hm boot_enumerate (PyProof.Rows.callWith_type1
    (thn (ha.run pos pins s σ H _ I h) fun us s1 ⟨vs, H1, I1, r1, a, xs, ex, hq, q⟩ => ?_) hs rfl))
  subst ex
  cases r1 with
  | cons r rr =>
    cases rr
    cases r
    obtain ⟨its, rv, p', hz⟩ := I1.tuple hq
    have al : a < s1.heap.objs.size := by obtain ⟨_, z, _⟩ := p'; exact Heap.lt_size z
    refine rip_call_enum p' fun h' he hit hk => wpAny_pyIter_enum he ?_
    have I2 : Inv X pins σ H1 { s1 with heap := h' } := I1.kept (t' := s1.toks) hk
    refine ⟨s1.heap.objs.size + 1, [s1.heap.objs.size + 1, s1.heap.objs.size], _, _, H1, rfl, I2,
      turn_enumT a (s1.heap.objs.size + 1) s1.heap.objs.size (Nat.ne_of_lt al) (Nat.ne_of_lt (Nat.lt_succ_of_lt al)), ⟨⟨.none, he⟩, hit, Nat.succ_ne_self _⟩, fun b hb => ?_, q⟩
    have hle : s1.heap.objs.size ≤ b := by
      rcases (show b = s1.heap.objs.size + 1 ∨ b = s1.heap.objs.size by simpa using hb) with z | z
      · rw [z]; exact Nat.le_add_right _ _
      · rw [z]; exact Nat.le_refl _
    exact I1.fpOk hle (I1.hok.fresh hle)
theorem walk_enumT {K : PySem.W.Frag} {a : Addr} {xs : List V} : Walk (IteT K a) xs.length (fun H => SqT K H a xs) (YPair (fun i => some (.int (i : Nat))) (fun i => xs[i]?)) := by
  refine ⟨fun i _ hi q => ⟨xs, xs[i], q, by simp [hi]⟩, fun _ q => ⟨xs, q, Nat.le_refl _⟩, fun i H v H' _ q y => ?_⟩
  obtain ⟨T, x, h1, h2, h3, h4⟩ := y
  exact ⟨T, .int (i : Nat), x, h1, h2, h3, rfl, h4 xs q⟩
end Rip

/-! Books: their parts looked at, a book made of right parts without a ring. -/
namespace Rip
open PySem PySem.Spec PyProof.Rows L2
/-- what is never come to -/
theorem ps_no {X : Cx} {st : Stmt} : PS X st (fun _ _ _ => False) := ⟨fun _ _ _ _ _ _ h => h.elim⟩
theorem tyx_tup {K : PySem.W.Frag} {H : Hp} {a : Addr} {xs : List V} (h : SqT K H a xs) : TyX K H (.ref a) (.type "tuple") := by
  unfold SqT at h
  rcases h with (h | ⟨o, h⟩) | ⟨o, its, n, h1, h2, _⟩
  · exact .base (.tup h)
  · exact .fTuple h
  · exact .kTuple h1 h2
/-- pairs by their order -/
def ltP (p q : Nat × Nat) : Prop := p.1 < q.1 ∨ (p.1 = q.1 ∧ p.2 < q.2)
theorem lex_two (a b c d : Nat) : Ob.lexAt (fun j => decide (([(a : Int), (b : Int)] : List Int).getD j 0 = ([(c : Int), (d : Int)] : List Int).getD j 0)) (fun j => decide (([(a : Int), (b : Int)] : List Int).getD j 0 ≤ ([(c : Int), (d : Int)] : List Int).getD j 0)) (decide (2 ≤ 2)) 0 2 = decide (a < c ∨ (a = c ∧ b ≤ d)) := by
  show (if decide ((a : Int) = (c : Int)) = true then (if decide ((b : Int) = (d : Int)) = true then decide (2 ≤ 2) else decide ((b : Int) ≤ (d : Int))) else decide ((a : Int) ≤ (c : Int))) = _
  by_cases h1 : a = c
  · subst h1
    rw [if_pos (decide_eq_true rfl)]
    by_cases h2 : b = d
    · subst h2
      rw [if_pos (decide_eq_true rfl)]
      simp
    · rw [if_neg (by simp only [decide_eq_true_eq]; omega)]
      exact decide_eq_decide.mpr ⟨fun z => .inr ⟨rfl, by omega⟩, fun z => by omega⟩
  · rw [if_neg (by simp only [decide_eq_true_eq]; omega)]
    exact decide_eq_decide.mpr ⟨fun z => .inl (by omega), fun z => by omega⟩
/-- right parts of a book, without a ring -/
structure Right (bl : List Nat) (ns : List (Nat × Nat)) : Prop where
  few : bl.length ≤ 200
  blk : ∀ b ∈ bl, b < 50
  nfew : ns.length ≤ 4000
  asc : ns.Pairwise ltP
  inn : ∀ p ∈ ns, p.1 < bl.length ∧ p.2 < bl.length ∧ p.1 ≠ p.2
section
variable {P : Program} {w : World} {K : PySem.W.Frag} {mg : Str → Option Value} {base : Heap}
abbrev s_isneed : Stmt := top 21
abbrev s_areb : Stmt := top 19
abbrev s_check : Stmt := top 20
abbrev s_init : Stmt := inClass (top 18) 0
/-! ### is_need -/
def spIsNeed (K : PySem.W.Frag) : Sp := fun vs H Q _ => ∃ (n : Nat) (r : Addr) (c o : Nat), vs = [nV n, .ref r] ∧ SqT K H r [nV c, nV o] ∧ Q (.bl (decide (c < n ∧ o < n ∧ c ≠ o))) H
abbrev scNdN : List Str := ["many", "thing", "change", "other"]
theorem scNd : FnScope scNdN ["many", "thing"] (defScope s_isneed) := ⟨rfl, rfl, rfl, by decide +kernel, rfl, by decide +kernel, by decide +kernel⟩
theorem ok_isneed {f fB fN : Addr} {fd fdB fdN : FuncData} (F : Fun K "is_need" "is_need" s_isneed f fd) (B : Blt mg) (FB : Fun K "is_number_below" "is_number_below" s_isbelow fB fdB) (bB : Binds K fdB ["bound", "thing"] []) (gB : mg "is_number_below" = some (.ref fB))
    (FN : NumT K mg fN fdN) (bN : Binds K fdN ["thing"] []) (gN : mg "is_number" = some (.ref fN)) : FnOk P w K mg base CX0 4 f fd ["many", "thing"] (spIsNeed K) := by
  have GB : FnOk P w K mg base CX0 3 fB fdB ["bound", "thing"] (spIsBelow K) := ok_isbelow FB FN bN gN B
  refine F.ok scNd (fun vs H Q E h => ?_) (fun cdv A outer s H vs Q E hr h => ?_)
  · obtain ⟨n, r, c, o, rfl, _⟩ := h
    rfl
  · obtain ⟨n, r, c, o, rfl, hS, q⟩ := h
    refine ⟨_,
      (pss_cons (ps_if (pw_or (pt_not (pt_val (pe_callB call_isi (by rfl) B.isinstance PyProof.Rows.boot_isinstance (pa_cons (pv 1) (pa_cons (pe_bltn (v := .ty "tuple") (by rfl) B.tuple PyProof.Rows.boot_tuple rfl) pa_nil))))) (pw_or1 (pt_cmpR op_ne (pe_callB call_len_seq (by rfl) B.len PySem.boot_len (pa_cons (pv 1) pa_nil)) pe_int (nomark _)))).pt
        (pss_one ps_no) pss_nil)
      (pss_cons (ps_asg (pv 1) (pg_tup rfl (pgs_cons (pg_name (i := 2) scNd.nd rfl (.inl rfl)) (pgs_cons (pg_name (i := 3) scNd.nd rfl (.inl rfl)) pgs_nil))))
      (pss_one (ps_ret (pe_and (pe_call GB hr (by rfl) gB FB.kp bB .nil pass0 (pa_cons (pv 0) (pa_cons (pv 2) pa_nil))) (pe_and (pe_call GB hr (by rfl) gB FB.kp bB .nil pass0 (pa_cons (pv 0) (pa_cons (pv 3) pa_nil))) (pe_one (pe_cmpR op_ne (pv 2) (pv 3) (nomark _))))))))), ?_⟩
    refine ⟨_, rfl, _, _, _, _, true, rfl, .ty "tuple", tyx_tup hS, kit_ty (by decide +kernel), _, rfl, iteF ?_⟩
    refine ⟨_, rfl, r, _, rfl, .inr hS, rfl, _, rfl, iteNS rfl ?_⟩
    refine ⟨_, rfl, r, _, rfl, hS, rfl, _, _, rfl, _, [], rfl, rfl, ?_⟩
    refine ⟨_, rfl, _, rfl, _, _, rfl, ob_int _, _, rfl, ?_⟩
    show if decide ((0 : Int) ≤ (c : Int) ∧ (c : Int) < (n : Int)) = true then _ else _
    refine ite_ok (fun h1 => ?_) fun h1 => ?_
    · refine ⟨_, rfl, _, rfl, _, _, rfl, ob_int _, _, rfl, ?_⟩
      show if decide ((0 : Int) ≤ (o : Int) ∧ (o : Int) < (n : Int)) = true then _ else _
      refine ite_ok (fun h2 => ?_) fun h2 => ?_
      · refine ⟨_, rfl, _, rfl, rfl, ?_⟩
        have e : (!decide (nV c = nV o)) = decide (c < n ∧ o < n ∧ c ≠ o) := by
          by_cases h : c = o
          · subst h; simp
          · have : ¬ nV c = nV o := fun z => by injection z with z; omega
            rw [decide_eq_false this, decide_eq_true (by omega)]
            rfl
        rw [e]
        exact q
      · rw [decide_eq_false (by omega)] at q
        exact q
    · rw [decide_eq_false (by omega)] at q
      exact q
/-! ### check_parts of right parts -/
structure Consts (mg : Str → Option Value) : Prop where
  c1 : ∃ t, mg "MOST_CHANGES" = some (.int 200 t)
  c2 : ∃ t, mg "MOST_BLOCKS" = some (.int 50 t)
  c3 : ∃ t, mg "MOST_NEEDS" = some (.int 4000 t)
theorem pe_const {X : Cx} {x : Str} {pos : Pos} {i : Int} (hg : Gl X x) (h : ∃ t, X.mg x = some (.int i t)) (hd : (x == ("__debug__" : Str)) = false := by decide) : PE X (.Name x pos) (tC (.int i)) := by
  obtain ⟨t, h⟩ := h
  exact pe_glob hg h ⟨t, rfl⟩ hd
/-! ### are_blocks of right ones -/
def spAreB (K : PySem.W.Frag) : Sp := fun vs H Q _ => ∃ (b : Addr) (bl : List Nat), vs = [.ref b] ∧ SqT K H b (bl.map nV) ∧ bl.length ≤ 200 ∧ (∀ x ∈ bl, x < 50) ∧ ∀ H', Same H H' → Q (.bl true) H'
def AreT (K : PySem.W.Frag) (mg : Str → Option Value) : Prop := ∃ f fd, Fun K "are_blocks" "are_blocks" s_areb f fd ∧ Binds K fd ["thing"] [] ∧ mg "are_blocks" = some (.ref f)
abbrev scAreN : List Str := ["thing", "block"]
theorem scAre : FnScope scAreN ["thing"] (defScope s_areb) := ⟨rfl, rfl, rfl, by decide +kernel, rfl, by decide +kernel, by decide +kernel⟩
theorem ok_areb {f fB fN : Addr} {fd fdB fdN : FuncData} (F : Fun K "are_blocks" "are_blocks" s_areb f fd) (B : Blt mg) (C : Consts mg) (FB : Fun K "is_number_below" "is_number_below" s_isbelow fB fdB) (bB : Binds K fdB ["bound", "thing"] []) (gB : mg "is_number_below" = some (.ref fB))
    (FN : NumT K mg fN fdN) (bN : Binds K fdN ["thing"] []) (gN : mg "is_number" = some (.ref fN)) : FnOk P w K mg base CX0 4 f fd ["thing"] (spAreB K) := by
  have GB : FnOk P w K mg base CX0 3 fB fdB ["bound", "thing"] (spIsBelow K) := ok_isbelow FB FN bN gN B
  refine F.ok scAre (fun vs H Q E h => ?_) (fun cdv A outer s H vs Q E hr h => ?_)
  · obtain ⟨b, bl, rfl, _⟩ := h
    rfl
  · obtain ⟨b, bl, rfl, hB, hl, h50, q⟩ := h
    refine ⟨_,
      (pss_cons (ps_if (pw_or (pt_not (pt_val (pe_callB call_isi (by rfl) B.isinstance PyProof.Rows.boot_isinstance (pa_cons (pv 0) (pa_cons (pe_bltn (v := .ty "tuple") (by rfl) B.tuple PyProof.Rows.boot_tuple rfl) pa_nil))))) (pw_or1 (pt_cmpR op_gt (pe_callB call_len_seq (by rfl) B.len PySem.boot_len (pa_cons (pv 0) pa_nil)) (pe_const (by rfl) C.c1) (nomark _)))).pt
        (pss_one ps_no) pss_nil)
      (pss_one (ps_ret (pe_callB (cr_all rfl) (by rfl) B.all PyProof.Rows.boot_all (pa_cons (pe_lc (own := [("block", 1)]) (g := gName 1) (tt := tYes)
        (te := tCall (spIsBelow K) [] E0 (tCons (tC (.int 50)) (tCons (tVar 1) tNil))) rfl scAre.nd (pi_tup (pv 0)) (blkOk_by (own := [("block", 1)]) (N := scAreN) (sc := defScope s_areb) (by decide +kernel)) (fun _ _ _ _ _ => (pg_name (i := 1) scAre.nd rfl (.inl rfl))) (fun _ _ _ _ _ => pts_nil)
        (fun _ _ _ _ _ => (pe_call GB hr (by rfl) gB FB.kp bB .nil pass0 (pa_cons (pe_const (by rfl) C.c2) (pa_cons (pv 1) pa_nil))))) pa_nil))))), ?_⟩
    refine ⟨_, rfl, _, _, _, _, true, rfl, .ty "tuple", tyx_tup hB, kit_ty (by decide +kernel), _, rfl, iteF ?_⟩
    refine ⟨_, rfl, b, _, rfl, .inr hB, _, _, rfl, rfl, _, rfl, iteN (by rw [List.length_map]; omega) ?_⟩
    refine ⟨_, rfl, b, rfl, ⟨_, hB⟩, fun D nD => ?_⟩
    refine lc_tup (K := K) (a := b) (xs := bl.map nV) (fun i H2 => Same H H2 ∧ H2 D = some (.lst (List.map V.bl (List.replicate i true)))) ⟨same_upd nD, upd_same⟩ (fun i H2 _ z => same_seqT z.1 hB) ?_ ?_
    · rintro i x H2 ex ⟨s2, eD⟩
      rw [List.getElem?_map] at ex
      cases ec : bl[i]? with
      | none => rw [ec] at ex; cases ex
      | some c =>
        rw [ec] at ex
        cases ex
        have hc := h50 c (List.mem_of_getElem? ec)
        have hi := (List.getElem?_eq_some_iff.mp ec).1
        refine ⟨rfl, _, rfl, _, _, rfl, ob_int _, _, eD, ?_, same_put s2 nD, ?_⟩
        · rw [List.length_map, List.length_replicate, sizeLine_eq]
          omega
        · rw [upd_same, List.replicate_succ', List.map_append]
          have eA : V.bl (isBelow 50 (nV c)) = V.bl true := by
            show V.bl (decide ((0 : Int) ≤ (c : Int) ∧ (c : Int) < 50)) = _
            rw [decide_eq_true (by omega)]
          exact congrArg (fun z => some (HO.lst (_ ++ [z]))) eA
    · rintro H2 ⟨s2, eD⟩
      refine ⟨D, _, rfl, .inl (.inl eD), ?_⟩
      have e3 : (List.replicate (bl.map nV).length true).all id = true := by
        rw [List.all_eq_true]
        intro x hx
        exact (List.mem_replicate.mp hx).2
      rw [e3]
      exact q H2 s2
def spCheck (K : PySem.W.Frag) : Sp := fun vs H Q _ => ∃ (b a : Addr) (bl : List Nat) (ns : List (Nat × Nat)), vs = [.ref b, .ref a] ∧ SqT K H b (bl.map nV) ∧ PairsAt K H a ns ∧ Right bl ns ∧ ∀ H', Same H H' → Q .non H'
abbrev scCkN : List Str := ["blocks", "needs", "index", "need"]
theorem scCk : FnScope scCkN ["blocks", "needs"] (defScope s_check) := ⟨rfl, rfl, rfl, by decide +kernel, rfl, by decide +kernel, by decide +kernel⟩
theorem ok_check {f fB fN fD : Addr} {fd fdB fdN fdD : FuncData} (F : Fun K "check_parts" "check_parts" s_check f fd) (B : Blt mg) (C : Consts mg) (FB : Fun K "is_number_below" "is_number_below" s_isbelow fB fdB) (bB : Binds K fdB ["bound", "thing"] []) (gB : mg "is_number_below" = some (.ref fB))
    (FN : NumT K mg fN fdN) (bN : Binds K fdN ["thing"] []) (gN : mg "is_number" = some (.ref fN)) (FD : Fun K "is_need" "is_need" s_isneed fD fdD) (bD : Binds K fdD ["many", "thing"] []) (gD : mg "is_need" = some (.ref fD)) (hA : AreT K mg) :
    FnOk P w K mg base CX0 5 f fd ["blocks", "needs"] (spCheck K) := by
  have GB : FnOk P w K mg base CX0 3 fB fdB ["bound", "thing"] (spIsBelow K) := ok_isbelow FB FN bN gN B
  obtain ⟨fA, fdA, FA, bA, gA⟩ := hA
  have GA : FnOk P w K mg base CX0 4 fA fdA ["thing"] (spAreB K) := ok_areb FA B C FB bB gB FN bN gN
  have GD : FnOk P w K mg base CX0 4 fD fdD ["many", "thing"] (spIsNeed K) := ok_isneed FD B FB bB gB FN bN gN
  refine F.ok scCk (fun vs H Q E h => ?_) (fun cdv A outer s H vs Q E hr h => ?_)
  · obtain ⟨b, a, bl, ns, rfl, _⟩ := h
    rfl
  · obtain ⟨b, a, bl, ns, rfl, hB, PA, R, q⟩ := h
    obtain ⟨rs, hA, hrl, hrs⟩ := id PA
    have hu := hu_of hr
    refine ⟨_,
      (pss_cons (ps_if (pt_not (pt_val (pe_call GA (hr.mono (by decide)) (by rfl) gA FA.kp bA .nil pass0 (pa_cons (pv 0) pa_nil))))
        (pss_one ps_no) pss_nil)
      (pss_cons (ps_if (pw_or (pt_not (pt_val (pe_callB call_isi (by rfl) B.isinstance PyProof.Rows.boot_isinstance (pa_cons (pv 1) (pa_cons (pe_bltn (v := .ty "tuple") (by rfl) B.tuple PyProof.Rows.boot_tuple rfl) pa_nil))))) (pw_or1 (pt_cmpR op_gt (pe_callB call_len_seq (by rfl) B.len PySem.boot_len (pa_cons (pv 1) pa_nil)) (pe_const (by rfl) C.c3) (nomark _)))).pt
        (pss_one ps_no) pss_nil)
      (pss_one (ps_for PassesOwn.never rfl (pi_enumT (by rfl) B.enumerate (pa_cons (pv 1) pa_nil)) (pg_tup rfl (pgs_cons (pg_name (i := 2) scCk.nd rfl (.inl rfl)) (pgs_cons (pg_name (i := 3) scCk.nd rfl (.inl rfl)) pgs_nil)))
        (pss_cons (ps_if (pt_not (pt_val (pe_call GD (hr.mono (by decide)) (by rfl) gD FD.kp bD .nil pass0 (pa_cons (pe_callB call_len_seq (by rfl) B.len PySem.boot_len (pa_cons (pv 0) pa_nil)) (pa_cons (pv 3) pa_nil)))))
          (pss_one ps_no) pss_nil)
        (pss_one (ps_if (pw_and (pt_cmpR op_gt (pv 2) pe_int (nomark _)) (pw_and1 (pt_cmpR (op_leT (Nat.lt_of_succ_lt hu)) (pv 3) (pe_ix ix_tup (pv 1) (pe_op op_sub (pv 2) pe_int) (fun _ _ => rfl)) (nomark _)))).pt
          (pss_one ps_no) pss_nil))))))), ?_⟩
    refine ⟨_, rfl, b, bl, rfl, hB, R.few, R.blk, fun H2 s0 => ⟨_, rfl, iteF ?_⟩⟩
    have hA := same_seqT s0 hA
    have hrs : ∀ (i : Nat) (r : Addr) (p : Nat × Nat), rs[i]? = some r → ns[i]? = some p → SqT K H2 r [nV p.1, nV p.2] := fun i r p x y => same_seqT s0 (hrs i r p x y)
    have hB := same_seqT s0 hB
    refine ⟨_, rfl, _, _, _, _, true, rfl, .ty "tuple", tyx_tup hA, kit_ty (by decide +kernel), _, rfl, iteF ?_⟩
    refine ⟨_, rfl, a, _, rfl, .inr hA, _, _, rfl, rfl, _, rfl, iteN (by have := R.nfew; rw [List.length_map, hrl]; omega) ?_⟩
    -- the needs
    refine ⟨_, rfl, a, _, rfl, hA, for_it (walk_enumT (K := K) (a := a) (xs := rs.map V.ref)) (fun i σ H3 => Same H2 H3 ∧ ∃ y z, σ = [some (.ref b), some (.ref a), y, z]) ⟨Same.refl H2, none, none, rfl⟩ (fun i σ H3 _ z => same_seqT z.1 hA) ?_ ?_⟩
    · rintro i x σ H3 H4 hi ⟨s3, y, z, rfl⟩ ⟨T, v1, v2, rfl, nT, rfl, e1, e2⟩
      have e1' : V.int (i : Int) = v1 := Option.some.inj e1
      subst e1'
      have e2 : (rs.map V.ref)[i]? = some v2 := e2
      rw [List.length_map, hrl] at hi
      rw [List.getElem?_map] at e2
      cases er : rs[i]? with
      | none => rw [er] at e2; cases e2
      | some r =>
        rw [er] at e2
        cases e2
        have en : ns[i]? = some ns[i] := List.getElem?_eq_getElem hi
        generalize ns[i] = p at en
        obtain ⟨c, o⟩ := p
        obtain ⟨hc, ho, hco⟩ := R.inn (c, o) (List.mem_of_getElem? en)
        have sT := s3.trans (same_upd (o := .tup [.int (i : Int), .ref r]) nT)
        refine ⟨T, _, rfl, .inl (.inl upd_same), rfl, _, _, rfl, _, [], rfl, rfl, ?_⟩
        generalize upd H3 T (.tup [.int (i : Int), .ref r]) = H5 at sT ⊢
        have hr5 := same_seqT sT (hrs i r (c, o) er en)
        refine st_eq (σ' := [some (.ref b), some (.ref a), some (.int (i : Int)), some (.ref r)]) rfl ?_
        refine ⟨_, rfl, b, _, rfl, .inr (same_seqT sT hB), _, rfl, bl.length, r, c, o, by rw [List.length_map]; rfl, hr5, _, rfl, ?_⟩
        refine iteNS ⟨hc, ho, hco⟩ ?_
        refine ⟨_, rfl, _, _, rfl, rfl, _, rfl, ite_ok (fun h0 => ?_) fun h0 => ⟨sT, _, _, rfl⟩⟩
        have i1 : i - 1 < rs.length := by omega
        have er1 : rs[i - 1]? = some rs[i - 1] := List.getElem?_eq_getElem i1
        generalize rs[i - 1] = r1 at er1
        have en1 : ns[i - 1]? = some ns[i - 1] := List.getElem?_eq_getElem (by omega)
        have hlt : ltP ns[i - 1] (c, o) := by
          have h1 := List.pairwise_iff_getElem.mp R.asc (i - 1) i (by omega) hi (by omega)
          have h2 : ns[i] = (c, o) := Option.some.inj ((List.getElem?_eq_getElem hi).symm.trans en)
          rw [h2] at h1
          exact h1
        generalize ns[i - 1] = p1 at en1 hlt
        obtain ⟨c1, o1⟩ := p1
        have hr1 := same_seqT sT (hrs (i - 1) r1 (c1, o1) er1 en1)
        refine ⟨_, rfl, _, rfl, _, rfl, _, _, rfl, rfl, a, _, _, .ref r1, rfl, rfl, same_seqT sT hA, at_of (j := i - 1) (by omega) (by rw [List.getElem?_map, er1]; rfl), r, r1, [(c : Int), (o : Int)], [(c1 : Int), (o1 : Int)], rfl, rfl, hr5, hr1, _, rfl, ?_⟩
        have e : Ob.lexAt (fun j => decide (([(c : Int), (o : Int)] : List Int).getD j 0 = ([(c1 : Int), (o1 : Int)] : List Int).getD j 0)) (fun j => decide (([(c : Int), (o : Int)] : List Int).getD j 0 ≤ ([(c1 : Int), (o1 : Int)] : List Int).getD j 0)) (decide (([(c : Int), (o : Int)] : List Int).length ≤ ([(c1 : Int), (o1 : Int)] : List Int).length)) 0 (min ([(c : Int), (o : Int)] : List Int).length ([(c1 : Int), (o1 : Int)] : List Int).length) = decide (c < c1 ∨ (c = c1 ∧ o ≤ o1)) := lex_two c o c1 o1
        rw [e]
        exact iteN (by rcases hlt with h | h <;> simp only at h <;> omega) ⟨sT, _, _, rfl⟩
    · rintro σ H3 ⟨s3, y, z, rfl⟩
      exact q H3 (s0.trans s3)
/-! ### a book -/
abbrev fldsB (b a f : Addr) : List (Str × V) := [(("blocks" : Str), V.ref b), (("needs" : Str), V.ref a), (("far" : Str), V.ref f)]
/-- at p a book of these blocks and needs, with its masks -/
structure BookAt (K : PySem.W.Frag) (C : Addr) (H : Hp) (p : Addr) (bl : List Nat) (ns : List (Nat × Nat)) (f : List Nat) : Prop where
  ob : ∃ dx b a t, H p = some (.ins C dx (fldsB b a t)) ∧ SqT K H b (bl.map nV) ∧ PairsAt K H a ns ∧ SqT K H t (f.map nV)
  fars : FarsOf bl.length ns f
theorem PairsAt.same {H H' : Hp} {a : Addr} {ns : List (Nat × Nat)} (h : PairsAt K H a ns) (s : Same H H') : PairsAt K H' a ns := by
  obtain ⟨rs, h1, h2, h3⟩ := h
  exact ⟨rs, same_seqT s h1, h2, fun i r p x y => same_seqT s (h3 i r p x y)⟩
theorem BookAt.same {C : Addr} {H H' : Hp} {p : Addr} {bl : List Nat} {ns : List (Nat × Nat)} {f : List Nat} (h : BookAt K C H p bl ns f) (s : Same H H') : BookAt K C H' p bl ns f := by
  obtain ⟨dx, b, a, t, h1, h2, h3, h4⟩ := h.ob
  exact ⟨⟨dx, b, a, t, s _ _ h1, same_seqT s h2, h3.same s, same_seqT s h4⟩, h.fars⟩
/-- what the top says of the class -/
structure BkT (K : PySem.W.Frag) (mg : Str → Option Value) (C : Addr) : Prop where
  cl : Cls K C
  nb : NoAttr K C "blocks"
  nn : NoAttr K C "needs"
  nf : NoAttr K C "far"
  g : mg "Book" = some (.ref C)
def spInitB (K : PySem.W.Frag) (C : Addr) : Sp := fun vs H Q _ => ∃ (p dx b a : Addr) (bl : List Nat) (ns : List (Nat × Nat)), vs = [.ref p, .ref b, .ref a] ∧ H p = some (.ins C dx []) ∧ SqT K H b (bl.map nV) ∧ PairsAt K H a ns ∧ Right bl ns ∧ (∀ c, c < bl.length → ¬ Far ns c c) ∧
  ∀ (f : List Nat) (H' : Hp), BookAt K C H' p bl ns f → (∀ c o, H c = some o → c ≠ p → H' c = some o) → Q .non H'
abbrev scBkN : List Str := ["self", "blocks", "needs", "far"]
theorem scBk : FnScope scBkN ["self", "blocks", "needs"] (defScope s_init) := ⟨rfl, rfl, rfl, by decide +kernel, rfl, by decide +kernel, by decide +kernel⟩
theorem kBN : ¬ ("blocks" : Str) = "needs" := by decide +kernel
theorem kBF : ¬ ("blocks" : Str) = "far" := by decide +kernel
theorem kNF : ¬ ("needs" : Str) = "far" := by decide +kernel
theorem put2 (b a : V) : putF "needs" a (putF "blocks" b []) = ([(("blocks" : Str), b), (("needs" : Str), a)] : List (Str × V)) := by
  show (if ("blocks" : Str) = "needs" then [(("blocks" : Str), a)] else (("blocks" : Str), b) :: putF "needs" a []) = _
  rw [if_neg kBN]
  rfl
theorem put3 (b a f : V) : putF "far" f ([(("blocks" : Str), b), (("needs" : Str), a)] : List (Str × V)) = ([(("blocks" : Str), b), (("needs" : Str), a), (("far" : Str), f)] : List (Str × V)) := by
  show (if ("blocks" : Str) = "far" then _ else (("blocks" : Str), b) :: (if ("needs" : Str) = "far" then _ else (("needs" : Str), a) :: putF "far" f [])) = _
  rw [if_neg kBF, if_neg kNF]
  rfl
theorem seqT_put {H : Hp} {p a : Addr} {C dx : Addr} {fs : List (Str × V)} {o : HO} {xs : List V} (hp : H p = some (.ins C dx fs)) (h : SqT K H a xs) : SqT K (upd H p o) a xs := by
  unfold SqT at *
  rcases h with (h | ⟨u, h⟩) | h
  · exact .inl (.inl (by rw [upd_ne (ne_of h hp (by intro z; cases z))]; exact h))
  · exact .inl (.inr ⟨u, by rw [upd_ne (ne_of h hp (by intro z; cases z))]; exact h⟩)
  · exact .inr h
theorem asc_nodup {ns : List (Nat × Nat)} (h : ns.Pairwise ltP) : ns.Nodup := h.imp fun {p q} z e => by
  subst e
  unfold ltP at z
  omega
theorem ok_init {f fC fF fB fN fD C : Addr} {fd fdC fdF fdB fdN fdD : FuncData} (F : Fun K "__init__" "Book.__init__" s_init f fd) (B : Blt mg) (Cn : Consts mg) (T : BkT K mg C)
    (FC : Fun K "check_parts" "check_parts" s_check fC fdC) (bC : Binds K fdC ["blocks", "needs"] []) (gC : mg "check_parts" = some (.ref fC))
    (FF : Fun K "far_masks" "far_masks" s_far fF fdF) (bF : Binds K fdF ["many", "needs"] []) (gF : mg "far_masks" = some (.ref fF))
    (FB : Fun K "is_number_below" "is_number_below" s_isbelow fB fdB) (bB : Binds K fdB ["bound", "thing"] []) (gB : mg "is_number_below" = some (.ref fB))
    (FN : NumT K mg fN fdN) (bN : Binds K fdN ["thing"] []) (gN : mg "is_number" = some (.ref fN)) (FD : Fun K "is_need" "is_need" s_isneed fD fdD) (bD : Binds K fdD ["many", "thing"] []) (gD : mg "is_need" = some (.ref fD)) (hA : AreT K mg) :
    FnOk P w K mg base CX0 6 f fd ["self", "blocks", "needs"] (spInitB K C) := by
  have GC : FnOk P w K mg base CX0 5 fC fdC ["blocks", "needs"] (spCheck K) := ok_check FC B Cn FB bB gB FN bN gN FD bD gD hA
  have GF : FnOk P w K mg base CX0 1 fF fdF ["many", "needs"] (spFar K) := ok_far FF B
  refine F.ok scBk (fun vs H Q E h => ?_) (fun cdv A outer s H vs Q E hr h => ?_)
  · obtain ⟨p, dx, b, a, bl, ns, rfl, _⟩ := h
    rfl
  · obtain ⟨p, dx, b, a, bl, ns, rfl, hp, hB, PA, R, hno, q⟩ := h
    refine ⟨_,
      (pss_cons (ps_expr (pe_call GC hr (by rfl) gC FC.kp bC .nil pass0 (pa_cons (pv 1) (pa_cons (pv 2) pa_nil))))
      (pss_cons (ps_set (i := 3) scBk.nd rfl (.inl rfl) (pe_call GF (hr.mono (by decide)) (by rfl) gF FF.kp bF .nil pass0 (pa_cons (pe_callB call_len_seq (by rfl) B.len PySem.boot_len (pa_cons (pv 1) pa_nil)) (pa_cons (pv 2) pa_nil))))
      (pss_cons (ps_if (pt_cmp (pc_isN (pv 3))) (pss_one ps_no) pss_nil)
      (pss_cons (ps_fld (pv 0) (pv 1) rfl)
      (pss_cons (ps_fld (pv 0) (pv 2) rfl)
      (pss_one (ps_fld (pv 0) (pv 3) rfl))))))), ?_⟩
    refine ⟨_, rfl, _, rfl, b, a, bl, ns, rfl, hB, PA, R, fun H1 s1 => ?_⟩
    have hB1 := same_seqT s1 hB
    have PA1 := PA.same s1
    refine ⟨_, rfl, b, _, rfl, .inr hB1, _, rfl, bl.length, a, ns, by rw [List.length_map]; rfl, PA1, asc_nodup R.asc, fun z hz => ⟨(R.inn z hz).1, (R.inn z hz).2.1⟩, by have := R.few; omega, by have := R.nfew; omega, fun t H2 fs s2 nt ht FO => ?_, fun H2 s2 ⟨c, hc, fc⟩ => absurd fc (hno c hc)⟩
    have s12 := s1.trans s2
    refine ⟨_, rfl, _, rfl, iteF ?_⟩
    have hp2 := s12 _ _ hp
    have ht2 : SqT K H2 t (fs.map nV) := .inl (.inl ht)
    refine ⟨_, rfl, _, rfl, p, C, dx, [], rfl, hp2, T.cl, T.nb, by decide, ?_⟩
    refine ⟨_, rfl, _, rfl, p, C, dx, _, rfl, upd_same, T.cl, T.nn, by show 1 < 1000; decide, ?_⟩
    refine ⟨_, rfl, _, rfl, p, C, dx, _, rfl, upd_same, T.cl, T.nf, by rw [put2]; show 2 < 1000; decide, ?_⟩
    have e1 : putF "far" (V.ref t) (putF "needs" (V.ref a) (putF "blocks" (V.ref b) [])) = fldsB b a t := by
      rw [put2, put3]
    rw [upd_upd, upd_upd]
    refine q fs _ ⟨⟨dx, b, a, t, by rw [upd_same]; exact congrArg (fun z => some (HO.ins C dx z)) e1, seqT_put hp2 (same_seqT s12 hB), ?_, seqT_put hp2 ht2⟩, FO⟩ fun c o e hc => by rw [upd_ne hc]; exact s12 _ _ e
    obtain ⟨rs, h1, h2, h3⟩ := PA.same s12
    exact ⟨rs, seqT_put hp2 h1, h2, fun i r z x y => seqT_put hp2 (h3 i r z x y)⟩
end
end Rip

/-! What is asked of a book: beneath, above, put_together, parted, day. -/
namespace Rip
open PySem PySem.Spec PyProof.Rows L2
section
variable {X : Cx} {C : Addr} {bmB : List Value} {B newId initId : String}
/-- C(), raised -/
theorem pmk_own0 {x : Str} {p pos : Pos} (F : ExcBaseFacts B newId initId bmB) (q : PySem.W.excIn X.K C bmB newId = true) (gC : X.mg x = some (.ref C)) (kC : PySem.W.keepIn X.K (.ref C) = true) (r : Raises X (.ref C)) (hg : Gl X x)
    (hdb : (x == ("__debug__" : Str)) = false := by decide) : PMk X (.Call (.Name x p) [] [] pos) (fun _ H Q => Q (.ref C) none H) := by
  intro pins s σ H Q I h
  refine wpAny_Call_Name_kw (ld_glob I hg gC ?_ hdb)
  refine PySem.W.callWith_K0 I.kIn kC ?_
  obtain ⟨bm, N, nm, qn, bs, hdct, sn, sub, ab, col, dd, k0, k1, k2, k3, k5, mN, hC, hN, hni, T⟩ := exc_obj I.kIn q
  refine wpAny_call_exc_subT F T hC hN hni (fun h' e hm => ?_) (by show 0 ≤ sizeLine; omega)
  exact mk_of I hm r h (I.hok.gone hm.new)
end
/-- an error class of the package without __init__ -/
structure ErT (K : PySem.W.Frag) (mg : Str → Option Value) (nm : Str) (C : Addr) : Prop where
  x : PySem.W.excIn K C [.type "ValueError", .type "Exception", .type "BaseException", .type "object"] "ValueError.__new__" = true
  g : mg nm = some (.ref C)
  k : PySem.W.keepIn K (.ref C) = true
  b : PySem.W.subIn K (.ref C) (.type "BaseException") = some true
  t : PySem.W.typeIn K (.ref C) = some (.type "type")
theorem lk_blocks (b a t : Addr) : (fldsB b a t).lookup ("blocks" : Str) = some (.ref b) := by
  rfl
theorem lk_needs (b a t : Addr) : (fldsB b a t).lookup ("needs" : Str) = some (.ref a) := by
  rfl
theorem lk_far (b a t : Addr) : (fldsB b a t).lookup ("far" : Str) = some (.ref t) := by
  rfl
theorem Far.ends {ns : List (Nat × Nat)} {n : Nat} (hb : ∀ p ∈ ns, p.1 < n ∧ p.2 < n) {c o : Nat} (f : Far ns c o) : o < n := by
  induction f with
  | one h => exact (hb _ h).2
  | step _ _ ih => exact ih
section
variable {P : Program} {w : World} {K : PySem.W.Frag} {mg : Str → Option Value} {base : Heap}
abbrev s_ischange : Stmt := top 24
abbrev s_beneath : Stmt := top 25
abbrev s_isblock : Stmt := top 23
/-! ### the fields -/
theorem BookAt.blk {C : Addr} {H : Hp} {p : Addr} {bl : List Nat} {ns : List (Nat × Nat)} {f : List Nat} (T : BkT K mg C) (h : BookAt K C H p bl ns f) {Q : VK} (q : ∀ b, SqT K H b (bl.map nV) → Q (.ref b) H) :
    ∃ a C dx fs v, V.ref p = .ref a ∧ H a = some (.ins C dx fs) ∧ Cls K C ∧ NoAttr K C "blocks" ∧ fs.lookup ("blocks" : Str) = some v ∧ Q v H := by
  obtain ⟨dx, b, a, t, h1, h2, h3, h4⟩ := h.ob
  exact ⟨p, C, dx, _, .ref b, rfl, h1, T.cl, T.nb, lk_blocks b a t, q b h2⟩
theorem BookAt.nds {C : Addr} {H : Hp} {p : Addr} {bl : List Nat} {ns : List (Nat × Nat)} {f : List Nat} (T : BkT K mg C) (h : BookAt K C H p bl ns f) {Q : VK} (q : ∀ a, PairsAt K H a ns → Q (.ref a) H) :
    ∃ a C dx fs v, V.ref p = .ref a ∧ H a = some (.ins C dx fs) ∧ Cls K C ∧ NoAttr K C "needs" ∧ fs.lookup ("needs" : Str) = some v ∧ Q v H := by
  obtain ⟨dx, b, a, t, h1, h2, h3, h4⟩ := h.ob
  exact ⟨p, C, dx, _, .ref a, rfl, h1, T.cl, T.nn, lk_needs b a t, q a h3⟩
theorem BookAt.frs {C : Addr} {H : Hp} {p : Addr} {bl : List Nat} {ns : List (Nat × Nat)} {f : List Nat} (T : BkT K mg C) (h : BookAt K C H p bl ns f) {Q : VK} (q : ∀ t, SqT K H t (f.map nV) → Q (.ref t) H) :
    ∃ a C dx fs v, V.ref p = .ref a ∧ H a = some (.ins C dx fs) ∧ Cls K C ∧ NoAttr K C "far" ∧ fs.lookup ("far" : Str) = some v ∧ Q v H := by
  obtain ⟨dx, b, a, t, h1, h2, h3, h4⟩ := h.ob
  exact ⟨p, C, dx, _, .ref t, rfl, h1, T.cl, T.nf, lk_far b a t, q t h4⟩
/-! ### is_change -/
def spIsChange (K : PySem.W.Frag) (C : Addr) : Sp := fun vs H Q _ => ∃ (p : Addr) (v : V) (bl : List Nat) (ns : List (Nat × Nat)) (f : List Nat), vs = [.ref p, v] ∧ BookAt K C H p bl ns f ∧ Ob K H v ∧ Q (.bl (isBelow bl.length v)) H
abbrev scIcN : List Str := ["book", "thing"]
theorem scIc : FnScope scIcN ["book", "thing"] (defScope s_ischange) := ⟨rfl, rfl, rfl, by decide +kernel, rfl, by decide +kernel, by decide +kernel⟩
theorem ok_ischange {C f fB fN : Addr} {fd fdB fdN : FuncData} (F : Fun K "is_change" "is_change" s_ischange f fd) (B : Blt mg) (T : BkT K mg C) (FB : Fun K "is_number_below" "is_number_below" s_isbelow fB fdB) (bB : Binds K fdB ["bound", "thing"] []) (gB : mg "is_number_below" = some (.ref fB))
    (FN : NumT K mg fN fdN) (bN : Binds K fdN ["thing"] []) (gN : mg "is_number" = some (.ref fN)) : FnOk P w K mg base CX0 4 f fd ["book", "thing"] (spIsChange K C) := by
  have GB : FnOk P w K mg base CX0 3 fB fdB ["bound", "thing"] (spIsBelow K) := ok_isbelow FB FN bN gN B
  refine F.ok scIc (fun vs H Q E h => ?_) (fun cdv A outer s H vs Q E hr h => ?_)
  · obtain ⟨p, v, bl, ns, f, rfl, _⟩ := h
    rfl
  · obtain ⟨p, v, bl, ns, fs, rfl, hk, ob, q⟩ := h
    refine ⟨_, (pss_one (ps_ret (pe_call GB hr (by rfl) gB FB.kp bB .nil pass0 (pa_cons (pe_callB call_len_seq (by rfl) B.len PySem.boot_len (pa_cons (pe_fld (pv 0) rfl) pa_nil)) (pa_cons (pv 1) pa_nil))))), ?_⟩
    refine ⟨_, rfl, hk.blk T fun b hb => ?_⟩
    refine ⟨b, _, rfl, .inr hb, _, rfl, _, _, rfl, ob, ?_⟩
    rw [List.length_map]
    exact q
/-! ### beneath -/
def spBeneath (K : PySem.W.Frag) (C CN : Addr) : Sp := fun vs H Q E => ∃ (p : Addr) (v : V) (bl : List Nat) (ns : List (Nat × Nat)) (f : List Nat), vs = [.ref p, v] ∧ BookAt K C H p bl ns f ∧ bl.length ≤ 100000 ∧ (∀ z ∈ ns, z.1 < bl.length ∧ z.2 < bl.length) ∧ Ob K H v ∧
  (isBelow bl.length v = false → E (.ref CN) none H) ∧
  ∀ c m, v = nV c → f[c]? = some m → ∀ (t : Addr) (H' : Hp), Same H H' → H t = none → H' t = some (.tup ((lotOf m).map nV)) → Q (.ref t) H'
abbrev scBeN : List Str := ["book", "change"]
theorem scBe : FnScope scBeN ["book", "change"] (defScope s_beneath) := ⟨rfl, rfl, rfl, by decide +kernel, rfl, by decide +kernel, by decide +kernel⟩
theorem far_small {n c m : Nat} {ns : List (Nat × Nat)} {f : List Nat} (h : FarsOf n ns f) (hn : n ≤ 100000) (hb : ∀ z ∈ ns, z.1 < n ∧ z.2 < n) (hc : f[c]? = some m) : m < 2 ^ n := by
  refine Nat.lt_pow_two_of_testBit m fun i hi => ?_
  cases e : m.testBit i with
  | false => rfl
  | true => exact absurd (Far.ends hb ((h.bits c m hc i).mp e)) (by omega)
theorem below_nat {n : Nat} {v : V} (h : isBelow n v = true) : ∃ c, v = nV c ∧ c < n := by
  cases v with
  | int i =>
    have h : decide (0 ≤ i ∧ i < (n : Int)) = true := h
    have h := of_decide_eq_true h
    exact ⟨i.toNat, congrArg V.int (by omega), by omega⟩
  | _ => cases h
theorem ok_beneath {C CN f fI fB fN fL : Addr} {fd fdI fdB fdN fdL : FuncData} (F : Fun K "beneath" "beneath" s_beneath f fd) (B : Blt mg) (T : BkT K mg C) (Er : ErT K mg "NoChange" CN)
    (FI : Fun K "is_change" "is_change" s_ischange fI fdI) (bI : Binds K fdI ["book", "thing"] []) (gI : mg "is_change" = some (.ref fI))
    (FB : Fun K "is_number_below" "is_number_below" s_isbelow fB fdB) (bB : Binds K fdB ["bound", "thing"] []) (gB : mg "is_number_below" = some (.ref fB))
    (FN : NumT K mg fN fdN) (bN : Binds K fdN ["thing"] []) (gN : mg "is_number" = some (.ref fN))
    (FL : Fun K "lot_of" "lot_of" s_lotof fL fdL) (bL : Binds K fdL ["mask"] []) (gL : mg "lot_of" = some (.ref fL)) :
    FnOk P w K mg base (L2.CX P w) 5 f fd ["book", "change"] (spBeneath K C CN) := by
  have GI : FnOk P w K mg base CX0 4 fI fdI ["book", "thing"] (spIsChange K C) := ok_ischange FI B T FB bB gB FN bN gN
  have GL : FnOk P w K mg base CX0 1 fL fdL ["mask"] (fun vs H Q E => spLotOf vs H Q E ∧ ∃ m, vs = [nV m] ∧ m < 2 ^ 900000) := ok_lotof FL B
  refine F.okX scBe (fun vs H Q E h => ?_) (fun cdv A outer s H vs Q E hr h => ?_)
  · obtain ⟨p, v, bl, ns, f, rfl, _⟩ := h
    rfl
  · obtain ⟨p, v, bl, ns, fs, rfl, hk, hn, hb, ob, qe, q⟩ := h
    refine ⟨_,
      (pss_cons (ps_if (pt_not (pt_val (pe_call GI hr (by rfl) gI FI.kp bI .nil pass0 (pa_cons (pv 0) (pa_cons (pv 1) pa_nil)))))
        (pss_one (ps_raise rfl (takes_of rfl rfl rfl rfl) (pmk_own0 PySem.F.excBase_ValueError Er.x Er.g Er.k (raises_own Er.b Er.t) (by exact rfl)))) pss_nil)
      (pss_one (ps_ret (pe_call GL (hr.mono (by decide)) (by rfl) gL FL.kp bL .nil pass0 (pa_cons (pe_ix ix_tup (pe_fld (pv 0) rfl) (pv 1) (fun _ _ => rfl)) pa_nil))))), ?_⟩
    refine ⟨_, rfl, _, rfl, p, v, bl, ns, fs, rfl, hk, ob, _, rfl, ?_⟩
    cases e : isBelow bl.length v with
    | false => exact qe e
    | true =>
      obtain ⟨c, rfl, hc⟩ := below_nat e
      have hl : c < fs.length := by rw [hk.fars.len]; exact hc
      have hm : fs[c]? = some fs[c] := List.getElem?_eq_getElem hl
      generalize fs[c] = m at hm
      obtain ⟨dx, b, a, t, h1, h2, h3, ht⟩ := hk.ob
      refine ⟨_, rfl, p, C, dx, _, .ref t, rfl, h1, T.cl, T.nf, lk_far b a t, ?_⟩
      refine ⟨_, rfl, t, _, _, nV m, rfl, rfl, ht, at_of (j := c) rfl (map_get hm), ⟨m, rfl, fun t2 H2 s2 n2 e2 => q c m rfl hm t2 H2 s2 n2 e2⟩, m, rfl, ?_⟩
      exact Nat.lt_of_lt_of_le (far_small hk.fars hn hb hm) (Nat.pow_le_pow_right (by decide) (by omega))
end
end Rip

/-! Books made of parts that are right: made_book, is_block, put_together, parted. -/
namespace Rip
open PySem PySem.Spec PyProof.Rows L2
section
variable {P : Program} {w : World} {K : PySem.W.Frag} {mg : Str → Option Value} {base : Heap}
abbrev s_made : Stmt := top 22
abbrev s_isblock2 : Stmt := top 23
theorem Right.nil : Right [] [] := ⟨by decide, fun _ h => (nomatch h), by decide, .nil, fun _ h => (nomatch h)⟩
theorem Far.nil {c o : Nat} (f : Far [] c o) : False := by
  induction f with
  | one h => cases h
  | step h _ _ => cases h
/-- all that stands near the making of a book -/
structure MkB (K : PySem.W.Frag) (mg : Str → Option Value) (C fI fC fF fB fN fD : Addr) (fdI fdC fdF fdB fdN fdD : FuncData) : Prop where
  M : Mk K C fI
  FI : Fun K "__init__" "Book.__init__" s_init fI fdI
  bI : Binds K fdI ["self", "blocks", "needs"] []
  B : Blt mg
  Cn : Consts mg
  T : BkT K mg C
  FC : Fun K "check_parts" "check_parts" s_check fC fdC
  bC : Binds K fdC ["blocks", "needs"] []
  gC : mg "check_parts" = some (.ref fC)
  FF : Fun K "far_masks" "far_masks" s_far fF fdF
  bF : Binds K fdF ["many", "needs"] []
  gF : mg "far_masks" = some (.ref fF)
  FB : Fun K "is_number_below" "is_number_below" s_isbelow fB fdB
  bB : Binds K fdB ["bound", "thing"] []
  gB : mg "is_number_below" = some (.ref fB)
  FN : NumT K mg fN fdN
  bN : Binds K fdN ["thing"] []
  gN : mg "is_number" = some (.ref fN)
  FD : Fun K "is_need" "is_need" s_isneed fD fdD
  bD : Binds K fdD ["many", "thing"] []
  gD : mg "is_need" = some (.ref fD)
  hA : AreT K mg
section
variable {C fI fC fF fB fN fD : Addr} {fdI fdC fdF fdB fdN fdD : FuncData}
theorem MkB.init (m : MkB K mg C fI fC fF fB fN fD fdI fdC fdF fdB fdN fdD) : FnOk P w K mg base CX0 6 fI fdI ["self", "blocks", "needs"] (spInitB K C) :=
  ok_init m.FI m.B m.Cn m.T m.FC m.bC m.gC m.FF m.bF m.gF m.FB m.bB m.gB m.FN m.bN m.gN m.FD m.bD m.gD m.hA
theorem MkB.far (m : MkB K mg C fI fC fF fB fN fD fdI fdC fdF fdB fdN fdD) : FnOk P w K mg base CX0 1 fF fdF ["many", "needs"] (spFar K) := ok_far m.FF m.B
end
theorem put_b (b a t b2 : Addr) : putF "blocks" (V.ref b2) (fldsB b a t) = fldsB b2 a t := by
  rfl
theorem put_n (b a t a2 : Addr) : putF "needs" (V.ref a2) (fldsB b a t) = fldsB b a2 t := by
  show (if ("blocks" : Str) = "needs" then _ else (("blocks" : Str), V.ref b) :: putF "needs" (V.ref a2) [(("needs" : Str), V.ref a), (("far" : Str), V.ref t)]) = _
  rw [if_neg kBN]
  rfl
theorem put_f (b a t t2 : Addr) : putF "far" (V.ref t2) (fldsB b a t) = fldsB b a t2 := by
  show (if ("blocks" : Str) = "far" then _ else (("blocks" : Str), V.ref b) :: (if ("needs" : Str) = "far" then _ else (("needs" : Str), V.ref a) :: putF "far" (V.ref t2) [(("far" : Str), V.ref t)])) = _
  rw [if_neg kBF, if_neg kNF]
  rfl
/-! ### made_book -/
def spMade (K : PySem.W.Frag) (C : Addr) : Sp := fun vs H Q _ => ∃ (b a : Addr) (bl : List Nat) (ns : List (Nat × Nat)), vs = [.ref b, .ref a] ∧ SqT K H b (bl.map nV) ∧ PairsAt K H a ns ∧ ns.Nodup ∧ (∀ z ∈ ns, z.1 < bl.length ∧ z.2 < bl.length) ∧ bl.length ≤ 100000 ∧ ns.length ≤ 1000000 ∧
  (∀ c, c < bl.length → ¬ Far ns c c) ∧ ∀ (p : Addr) (f : List Nat) (H' : Hp), Same H H' → H p = none → BookAt K C H' p bl ns f → Q (.ref p) H'
abbrev scMdN : List Str := ["blocks", "needs", "book"]
theorem scMd : FnScope scMdN ["blocks", "needs"] (defScope s_made) := ⟨rfl, rfl, rfl, by decide +kernel, rfl, by decide +kernel, by decide +kernel⟩
theorem ok_made {f C fI fC fF fB fN fD : Addr} {fd fdI fdC fdF fdB fdN fdD : FuncData} (F : Fun K "made_book" "made_book" s_made f fd) (m : MkB K mg C fI fC fF fB fN fD fdI fdC fdF fdB fdN fdD) :
    FnOk P w K mg base CX0 8 f fd ["blocks", "needs"] (spMade K C) := by
  have GI : FnOk P w K mg base CX0 6 fI fdI ["self", "blocks", "needs"] (spInitB K C) := m.init
  have GF : FnOk P w K mg base CX0 1 fF fdF ["many", "needs"] (spFar K) := m.far
  refine F.ok scMd (fun vs H Q E h => ?_) (fun cdv A outer s H vs Q E hr h => ?_)
  · obtain ⟨b, a, bl, ns, rfl, _⟩ := h
    rfl
  · obtain ⟨b, a, bl, ns, rfl, hB, PA, nd, inn, few, nfew, hno, q⟩ := h
    refine ⟨_,
      (pss_cons (ps_set (i := 2) scMd.nd rfl (.inl rfl) (pe_make m.M GI hr (by rfl) m.T.g m.bI .nil pass0 (pa_cons (pe_tup pa_nil) (pa_cons (pe_tup pa_nil) pa_nil))))
      (pss_cons (ps_fld (pv 2) (pv 0) rfl)
      (pss_cons (ps_fld (pv 2) (pv 1) rfl)
      (pss_cons (ps_fld (pv 2) (pe_call GF (hr.mono (by decide)) (by rfl) m.gF m.FF.kp m.bF .nil pass0 (pa_cons (pe_callB call_len_seq (by rfl) m.B.len PySem.boot_len (pa_cons (pv 0) pa_nil)) (pa_cons (pv 1) pa_nil))) rfl)
      (pss_one (ps_ret (pv 2))))))), ?_⟩
    refine ⟨Nat.zero_le _, fun e1 n1 => ⟨Nat.zero_le _, fun e2 n2 p dx np ndx pdx => ?_⟩⟩
    have x12 : e1 ≠ e2 := ne_of_none upd_same n2
    have s2 : Same H (upd (upd H e1 (.tup [])) e2 (.tup [])) := (same_upd n1).trans (same_upd n2)
    have h1 : upd (upd H e1 (.tup [])) e2 (.tup []) e1 = some (.tup []) := by rw [upd_ne x12, upd_same]
    have h2 : upd (upd H e1 (.tup [])) e2 (.tup []) e2 = some (.tup []) := upd_same
    generalize upd (upd H e1 (.tup [])) e2 (.tup []) = H2 at s2 h1 h2 np ndx ⊢
    have s3 : Same H2 (upd (upd H2 dx (.own p)) p (.ins C dx [])) := (same_upd ndx).trans (same_upd (by rw [upd_ne pdx.symm]; exact np))
    have hp3 : upd (upd H2 dx (.own p)) p (.ins C dx []) p = some (.ins C dx []) := upd_same
    generalize upd (upd H2 dx (.own p)) p (.ins C dx []) = H3 at s3 hp3 ⊢
    have np0 : H p = none := s2.free np
    refine ⟨p, dx, e1, e2, [], [], rfl, hp3, .inl (.inl (s3 _ _ h1)), ⟨[], .inl (.inl (s3 _ _ h2)), rfl, fun i r z x => by cases x⟩, Right.nil, fun c hc => absurd hc (Nat.not_lt_zero _), fun f0 H4 hk ex => ⟨rfl, ?_⟩⟩
    obtain ⟨dx4, b4, a4, t4, hp4, _⟩ := hk.ob
    have s4 : ∀ c o, H c = some o → H4 c = some o := fun c o e => ex c o (s3 _ _ (s2 _ _ e)) (ne_of_none e np0)
    clear ex hk h1 h2 hp3
    dsimp only [gName]
    refine st_eq (t := tSeq _ _) (σ' := [some (.ref b), some (.ref a), some (.ref p)]) rfl ?_
    refine ⟨_, rfl, _, rfl, p, C, dx4, _, rfl, hp4, m.T.cl, m.T.nb, by show 3 < 1000; decide, ?_⟩
    rw [put_b]
    refine ⟨_, rfl, _, rfl, p, C, dx4, _, rfl, upd_same, m.T.cl, m.T.nn, by show 3 < 1000; decide, ?_⟩
    rw [put_n, upd_upd]
    have s5 : Same H (upd H4 p (.ins C dx4 (fldsB b a t4))) := fun c o e => by rw [upd_ne (ne_of_none e np0)]; exact s4 c o e
    have hp5 : upd H4 p (.ins C dx4 (fldsB b a t4)) p = some (.ins C dx4 (fldsB b a t4)) := upd_same
    generalize upd H4 p (.ins C dx4 (fldsB b a t4)) = H5 at s5 hp5 ⊢
    refine ⟨_, rfl, b, _, rfl, .inr (same_seqT s5 hB), _, rfl, bl.length, a, ns, by rw [List.length_map]; rfl, PA.same s5, nd, inn, few, nfew, fun t H6 fs s6 nt ht FO => ?_, fun H6 s6 ⟨c, hc, fc⟩ => absurd fc (hno c hc)⟩
    refine ⟨_, rfl, p, C, dx4, _, rfl, s6 _ _ hp5, m.T.cl, m.T.nf, by show 3 < 1000; decide, ?_⟩
    rw [put_f]
    have s7 : Same H (upd H6 p (.ins C dx4 (fldsB b a t))) := fun c o e => by rw [upd_ne (ne_of_none e np0)]; exact s6 _ _ (s5 c o e)
    have ptt : t ≠ p := (ne_of_none hp5 nt).symm
    refine ⟨_, rfl, q p fs _ s7 np0 ⟨⟨dx4, b, a, t, upd_same, same_seqT s7 hB, PA.same s7, .inl (.inl (by rw [upd_ne ptt]; exact ht))⟩, FO⟩⟩
/-! ### is_block -/
def spIsBlock (K : PySem.W.Frag) (C : Addr) : Sp := fun vs H Q _ => ∃ (p : Addr) (v : V) (bl : List Nat) (ns : List (Nat × Nat)) (f : List Nat), vs = [.ref p, v] ∧ BookAt K C H p bl ns f ∧ Ob K H v ∧ Q (.bl (isNum v && inV v (bl.map nV))) H
abbrev scIbN : List Str := ["book", "thing"]
theorem scIb : FnScope scIbN ["book", "thing"] (defScope s_isblock) := ⟨rfl, rfl, rfl, by decide +kernel, rfl, by decide +kernel, by decide +kernel⟩
theorem ok_isblock {C f fN : Addr} {fd fdN : FuncData} (F : Fun K "is_block" "is_block" s_isblock f fd) (B : Blt mg) (T : BkT K mg C) (FN : NumT K mg fN fdN) (bN : Binds K fdN ["thing"] []) (gN : mg "is_number" = some (.ref fN)) :
    FnOk P w K mg base CX0 3 f fd ["book", "thing"] (spIsBlock K C) := by
  have GN : FnOk P w K mg base CX0 2 fN fdN ["thing"] (spIsNum K) := ok_isnum FN B
  refine F.ok scIb (fun vs H Q E h => ?_) (fun cdv A outer s H vs Q E hr h => ?_)
  · obtain ⟨p, v, bl, ns, f, rfl, _⟩ := h
    rfl
  · obtain ⟨p, v, bl, ns, fs, rfl, hk, ob, q⟩ := h
    obtain ⟨dx, b, a, t, h1, hb, _, _⟩ := hk.ob
    refine ⟨_, (pss_one (ps_ret (pe_and (pe_call GN hr (by rfl) gN FN.kp bN .nil pass0 (pa_cons (pv 1) pa_nil)) (pe_one (pe_cmpR op_in_seq (pv 1) (pe_fld (pv 0) rfl) (by with_unfolding_all rfl)))))), ?_⟩
    refine ⟨_, rfl, v, rfl, ob, _, rfl, ?_⟩
    cases v with
    | int i =>
      show if decide (0 ≤ i) = true then _ else _
      refine ite_ok (fun hi => ?_) fun hi => ?_
      · refine ⟨_, rfl, _, rfl, p, C, dx, _, .ref b, rfl, h1, T.cl, T.nb, lk_blocks b a t, b, _, rfl, .inr hb, rfl, by rw [List.all_map]; exact List.all_eq_true.mpr fun _ _ => rfl, ?_⟩
        have e : (isNum (.int i) && inV (.int i) (bl.map nV)) = inV (.int i) (bl.map nV) := by
          show (decide (0 ≤ i) && _) = _
          rw [decide_eq_true hi, Bool.true_and]
        rw [e] at q
        exact q
      · have e : (isNum (.int i) && inV (.int i) (bl.map nV)) = false := by
          show (decide (0 ≤ i) && _) = _
          rw [decide_eq_false hi, Bool.false_and]
        rw [e] at q
        exact q
    | bl x => exact iteF q
    | non => exact iteF q
    | str x => exact iteF q
    | byt x => exact iteF q
    | flt x => exact iteF q
    | ref x => exact iteF q
    | ty x => exact iteF q
end
end Rip

/-! put_together, parted. -/
namespace Rip
open PySem PySem.Spec PyProof.Rows L2
/-- whether a thing is a block of these -/
def isBlk (bl : List Nat) (v : V) : Bool := isNum v && inV v (bl.map nV)
theorem inV_nat (bl : List Nat) (x : Nat) : inV (nV x) (bl.map nV) = decide (x ∈ bl) := by
  unfold inV
  rw [List.any_map]
  induction bl with
  | nil => simp
  | cons y l ih =>
    rw [List.any_cons, ih]
    have e : ((fun y => eqV y (nV x)) ∘ nV) y = decide (x = y) := by
      show decide ((y : Int) = (x : Int)) = decide (x = y)
      exact decide_eq_decide.mpr ⟨fun h => by omega, fun h => by omega⟩
    rw [e]
    by_cases h : x = y
    · subst h; simp
    · simp [h]
theorem isBlk_nat {bl : List Nat} {v : V} (h : isBlk bl v = true) : ∃ x, v = nV x ∧ x ∈ bl := by
  unfold isBlk at h
  rw [Bool.and_eq_true] at h
  obtain ⟨h1, h2⟩ := h
  cases v with
  | int i =>
    have h1 : decide (0 ≤ i) = true := h1
    have h1 := of_decide_eq_true h1
    have e : V.int i = nV i.toNat := congrArg V.int (by omega)
    rw [e] at h2 ⊢
    rw [inV_nat] at h2
    exact ⟨_, rfl, of_decide_eq_true h2⟩
  | _ => cases h1
section
variable {P : Program} {w : World} {K : PySem.W.Frag} {mg : Str → Option Value} {base : Heap}
abbrev s_tog : Stmt := top 28
abbrev s_parted : Stmt := top 29
/-- a book that may be made further -/
structure Fit (bl : List Nat) (ns : List (Nat × Nat)) : Prop where
  nd : ns.Nodup
  inn : ∀ z ∈ ns, z.1 < bl.length ∧ z.2 < bl.length
  few : bl.length ≤ 100000
  nfew : ns.length ≤ 1000000
def spTog (K : PySem.W.Frag) (C CB : Addr) : Sp := fun vs H Q E => ∃ (p : Addr) (v1 v2 : V) (bl : List Nat) (ns : List (Nat × Nat)) (f : List Nat), vs = [.ref p, v1, v2] ∧ BookAt K C H p bl ns f ∧ Fit bl ns ∧ Ob K H v1 ∧ Ob K H v2 ∧
  (isBlk bl v1 = false ∨ isBlk bl v2 = false → E (.ref CB) none H) ∧
  ∀ x y, v1 = nV x → v2 = nV y → x ∈ bl → y ∈ bl → ∀ (q : Addr) (H' : Hp) (f' : List Nat), Same H H' → H q = none → BookAt K C H' q (bl.map fun b => if b = y then x else b) ns f' → Q (.ref q) H'
abbrev scTgN : List Str := ["book", "one", "other", "blocks", "block"]
theorem scTg : FnScope scTgN ["book", "one", "other"] (defScope s_tog) := ⟨rfl, rfl, rfl, by decide +kernel, rfl, by decide +kernel, by decide +kernel⟩
theorem ok_tog {f fK fM C CB fI fC fF fB fN fD : Addr} {fd fdK fdM fdI fdC fdF fdB fdN fdD : FuncData} (F : Fun K "put_together" "put_together" s_tog f fd) (m : MkB K mg C fI fC fF fB fN fD fdI fdC fdF fdB fdN fdD) (Er : ErT K mg "NoBlock" CB)
    (FK : Fun K "is_block" "is_block" s_isblock fK fdK) (bK : Binds K fdK ["book", "thing"] []) (gK : mg "is_block" = some (.ref fK))
    (FM : Fun K "made_book" "made_book" s_made fM fdM) (bM : Binds K fdM ["blocks", "needs"] []) (gM : mg "made_book" = some (.ref fM)) :
    FnOk P w K mg base (L2.CX P w) 9 f fd ["book", "one", "other"] (spTog K C CB) := by
  have GK : FnOk P w K mg base CX0 3 fK fdK ["book", "thing"] (spIsBlock K C) := ok_isblock FK m.B m.T m.FN m.bN m.gN
  have GM : FnOk P w K mg base CX0 8 fM fdM ["blocks", "needs"] (spMade K C) := ok_made FM m
  refine F.okX scTg (fun vs H Q E h => ?_) (fun cdv A outer s H vs Q E hr h => ?_)
  · obtain ⟨p, v1, v2, bl, ns, f, rfl, _⟩ := h
    rfl
  · obtain ⟨p, v1, v2, bl, ns, fs, rfl, hk, ft, o1, o2, qe, q⟩ := h
    obtain ⟨dx, b, a, t, h1, hb, ha, ht⟩ := hk.ob
    refine ⟨_,
      (pss_cons (ps_if (pw_or (pt_not (pt_val (pe_call GK (hr.mono (by decide)) (by rfl) gK FK.kp bK .nil pass0 (pa_cons (pv 0) (pa_cons (pv 1) pa_nil))))) (pw_or1 (pt_not (pt_val (pe_call GK (hr.mono (by decide)) (by rfl) gK FK.kp bK .nil pass0 (pa_cons (pv 0) (pa_cons (pv 2) pa_nil))))))).pt
        (pss_one (ps_raise rfl (takes_of rfl rfl rfl rfl) (pmk_own0 PySem.F.excBase_ValueError Er.x Er.g Er.k (raises_own Er.b Er.t) (by exact rfl)))) pss_nil)
      (pss_cons (ps_setLc (i := 3) (own := [("block", 4)]) (g := (gName 4)) (tt := tYes) rfl scTg.nd rfl rfl (sw_true rfl rfl rfl (by decide +kernel)) (pi_tup (pe_fld (pv 0) rfl)) (blkOk_by (own := [("block", 4)]) (N := scTgN) (sc := defScope s_tog) (by decide +kernel)) (fun _ _ _ _ _ => (pg_name (i := 4) scTg.nd rfl (.inl rfl))) (fun _ _ _ _ _ => pts_nil)
        (fun _ _ _ _ _ => (pe_ifExp (pt_cmpR op_eq (pv 4) (pv 2) (nomark _)) (pv 1) (pv 4))))
      (pss_one (ps_ret (pe_call GM hr (by rfl) gM FM.kp bM .nil pass0 (pa_cons (pe_tupleOf (by rfl) m.B.tuple (pv 3)) (pa_cons (pe_fld (pv 0) rfl) pa_nil))))))), ?_⟩
    refine ⟨_, rfl, _, rfl, p, v1, bl, ns, fs, rfl, hk, o1, _, rfl, ?_⟩
    show if (!(isBlk bl v1)) = true then _ else _
    cases e1 : isBlk bl v1 with
    | false => exact iteT (qe (.inl e1))
    | true =>
      refine iteF ?_
      refine ⟨_, rfl, _, rfl, p, v2, bl, ns, fs, rfl, hk, o2, _, rfl, ?_⟩
      show if (!(isBlk bl v2)) = true then _ else _
      cases e2 : isBlk bl v2 with
      | false => exact iteT (qe (.inr e2))
      | true =>
        refine iteF ?_
        obtain ⟨x, rfl, hx⟩ := isBlk_nat e1
        obtain ⟨y, rfl, hy⟩ := isBlk_nat e2
        refine ⟨_, rfl, p, C, dx, _, .ref b, rfl, h1, m.T.cl, m.T.nb, lk_blocks b a t, b, rfl, ⟨_, hb⟩, fun D nD => ?_⟩
        have fw := ft.few
        refine lc_tup (K := K) (a := b) (xs := bl.map nV) (fun i H2 => Same H H2 ∧ H2 D = some (.lst (((bl.take i).map fun z => if z = y then x else z).map nV)))
          ⟨same_upd nD, upd_same⟩ (fun i H2 _ z => same_seqT z.1 hb) ?_ ?_
        · rintro i z H2 hi ⟨s2, eD⟩
          rw [List.getElem?_map] at hi
          cases ez : bl[i]? with
          | none => rw [ez] at hi; cases hi
          | some z1 =>
            rw [ez] at hi
            cases hi
            have il := at_lt ez
            refine ⟨rfl, _, rfl, _, rfl, rfl, _, rfl, ?_⟩
            have fin : ∀ u, u = nV (if z1 = y then x else z1) → Same H (upd H2 D (.lst (((bl.take i).map fun z => if z = y then x else z).map nV ++ [u]))) ∧
                upd H2 D (.lst (((bl.take i).map fun z => if z = y then x else z).map nV ++ [u])) D = some (.lst (((bl.take (i + 1)).map fun z => if z = y then x else z).map nV)) := fun u eu => by
              subst eu
              refine ⟨same_put s2 nD, ?_⟩
              rw [upd_same, take_one ez, List.map_append, List.map_append]
              rfl
            have ll : (((bl.take i).map fun z => if z = y then x else z).map nV).length < sizeLine := by
              rw [List.length_map, List.length_map, List.length_take, sizeLine_eq]
              omega
            refine ite_ok (fun hz => ?_) fun hz => ?_
            · have e : z1 = y := by injection hz with hz; omega
              exact ⟨_, rfl, _, eD, ll, fin _ (by rw [if_pos e])⟩
            · have e : ¬ z1 = y := fun e => hz (by rw [e])
              exact ⟨_, rfl, _, eD, ll, fin _ (by rw [if_neg e])⟩
        · rintro H2 ⟨s2, eD⟩
          rw [List.length_map, List.take_length] at eD
          dsimp only [gName]
          refine st_eq (σ' := [some (.ref p), some (nV x), some (nV y), some (.ref D), none]) rfl ?_
          refine ⟨_, rfl, .inl ⟨D, _, rfl, .inl (.inl eD), fun t2 nt2 => ?_⟩⟩
          have nt0 : H t2 = none := s2.free nt2
          have s3 : Same H (upd H2 t2 (.tup ((bl.map fun z => if z = y then x else z).map nV))) := same_put s2 nt0
          refine ⟨_, rfl, p, C, dx, _, .ref a, rfl, s3 _ _ h1, m.T.cl, m.T.nn, lk_needs b a t, ?_⟩
          refine ⟨t2, a, bl.map fun z => if z = y then x else z, ns, rfl, .inl (.inl upd_same), ha.same s3, ft.nd, by rw [List.length_map]; exact ft.inn, by rw [List.length_map]; exact ft.few, ft.nfew, by rw [List.length_map]; exact hk.fars.no, fun q2 f2 H4 s4 n4 hk4 => ?_⟩
          exact q x y rfl rfl hx hy q2 H4 f2 (s3.trans s4) (s3.free n4) hk4
/-! ### parted -/
theorem catA_of {a b : Addr} {xs ys : List V} {H : Hp} {Q : VK} (ha : SqT K H a xs) (hb : SqT K H b ys) (hl : xs.length + ys.length ≤ sizeLine) (q : ∀ (p : Addr) (H' : Hp), Same H H' → SqT K H' p (xs ++ ys) → Q (.ref p) H') : rCatA K (.ref a) (.ref b) H Q := by
  refine ⟨a, b, xs, ys, rfl, rfl, ha, hb, hl, fun e => ?_, fun _ e => ?_, fun _ _ p np => ?_⟩
  · subst e
    exact q b H (Same.refl H) hb
  · subst e
    exact q a H (Same.refl H) (by rw [List.append_nil]; exact ha)
  · exact q p _ (same_upd np) (.inl (.inl upd_same))
theorem cut_lo (xs : List V) {c : Nat} (h : c ≤ xs.length) : cutV xs none (some (c : Int)) = xs.take c := by
  unfold cutV
  rw [HT.sIx_none, HT.sIx_nat, List.drop_zero, Nat.min_eq_left h, Nat.sub_zero]
theorem cut_hi (xs : List V) {c : Nat} (h : c < xs.length) : cutV xs (some ((c : Int) + 1)) none = xs.drop (c + 1) := by
  unfold cutV
  rw [HT.sIx_none, show ((c : Int) + 1) = ((c + 1 : Nat) : Int) from rfl, HT.sIx_nat, Nat.min_eq_left (by omega)]
  exact List.take_of_length_le (by rw [List.length_drop]; omega)
theorem set_cut {bl : List Nat} {c k : Nat} (h : c < bl.length) : ((bl.map nV).take c ++ [nV k]) ++ (bl.map nV).drop (c + 1) = (bl.set c k).map nV := by
  rw [List.set_eq_take_append_cons_drop, if_pos h, List.map_append, List.map_cons, List.map_take, List.map_drop, List.append_assoc]
  rfl
def spParted (K : PySem.W.Frag) (C CN : Addr) : Sp := fun vs H Q E => ∃ (p : Addr) (v : V) (bl : List Nat) (ns : List (Nat × Nat)) (f : List Nat), vs = [.ref p, v] ∧ BookAt K C H p bl ns f ∧ Fit bl ns ∧ Ob K H v ∧
  (isBelow bl.length v = false → E (.ref CN) none H) ∧
  ∀ c fr, v = nV c → c < bl.length → fr ∉ bl → (∀ d, d < fr → d ∈ bl) → ∀ (q : Addr) (H' : Hp) (f' : List Nat), Same H H' → H q = none → BookAt K C H' q (bl.set c fr) ns f' → Q (.ref q) H'
abbrev scPaN : List Str := ["book", "change", "fresh", "blocks"]
theorem scPa : FnScope scPaN ["book", "change"] (defScope s_parted) := ⟨rfl, rfl, rfl, by decide +kernel, rfl, by decide +kernel, by decide +kernel⟩
theorem ok_parted {f fK fM C CN fI fC fF fB fN fD : Addr} {fd fdK fdM fdI fdC fdF fdB fdN fdD : FuncData} (F : Fun K "parted" "parted" s_parted f fd) (m : MkB K mg C fI fC fF fB fN fD fdI fdC fdF fdB fdN fdD) (Er : ErT K mg "NoChange" CN)
    (FK : Fun K "is_change" "is_change" s_ischange fK fdK) (bK : Binds K fdK ["book", "thing"] []) (gK : mg "is_change" = some (.ref fK))
    (FM : Fun K "made_book" "made_book" s_made fM fdM) (bM : Binds K fdM ["blocks", "needs"] []) (gM : mg "made_book" = some (.ref fM)) :
    FnOk P w K mg base (L2.CX P w) 9 f fd ["book", "change"] (spParted K C CN) := by
  have GK : FnOk P w K mg base CX0 4 fK fdK ["book", "thing"] (spIsChange K C) := ok_ischange FK m.B m.T m.FB m.bB m.gB m.FN m.bN m.gN
  have GM : FnOk P w K mg base CX0 8 fM fdM ["blocks", "needs"] (spMade K C) := ok_made FM m
  refine F.okX scPa (fun vs H Q E h => ?_) (fun cdv A outer s H vs Q E hr h => ?_)
  · obtain ⟨p, v, bl, ns, f, rfl, _⟩ := h
    rfl
  · obtain ⟨p, v, bl, ns, fs, rfl, hk, ft, o1, qe, q⟩ := h
    obtain ⟨dx, b, a, t, h1, hb, ha, ht⟩ := hk.ob
    refine ⟨_,
      (pss_cons (ps_if (pt_not (pt_val (pe_call GK (hr.mono (by decide)) (by rfl) gK FK.kp bK .nil pass0 (pa_cons (pv 0) (pa_cons (pv 1) pa_nil)))))
        (pss_one (ps_raise rfl (takes_of rfl rfl rfl rfl) (pmk_own0 PySem.F.excBase_ValueError Er.x Er.g Er.k (raises_own Er.b Er.t) (by exact rfl)))) pss_nil)
      (PSs.nox (pss_cons (ps_set (i := 2) scPa.nd rfl (.inl rfl) pe_int)
      (pss_cons (ps_while PassesOwn.never (pt_cmpR op_in_seq (pv 2) (pe_fld (pv 0) rfl) (by with_unfolding_all rfl))
        (pss_one (ps_aug (i := 2) scPa.nd rfl (.inl rfl) pe_int ip_add)))
      (pss_cons (ps_set (i := 3) scPa.nd rfl (.inl rfl) (pe_op op_catA (pe_op op_catA (pe_slice sl_tup (pe_fld (pv 0) rfl) po_none (po_some (pv 1))) (pe_tup (pa_cons (pv 2) pa_nil))) (pe_slice sl_tup (pe_fld (pv 0) rfl) (po_some (pe_op op_add (pv 1) pe_int)) po_none)))
      (pss_one (ps_ret (pe_call GM hr (by rfl) gM FM.kp bM .nil pass0 (pa_cons (pv 3) (pa_cons (pe_fld (pv 0) rfl) pa_nil)))))))))), ?_⟩
    refine ⟨_, rfl, _, rfl, p, v, bl, ns, fs, rfl, hk, o1, _, rfl, ?_⟩
    cases e : isBelow bl.length v with
    | false => exact qe e
    | true =>
      obtain ⟨c, rfl, hc⟩ := below_nat e
      have fw := ft.few
      refine while_by (fun σ H2 => ∃ k : Nat, σ = [some (.ref p), some (nV c), some (nV k), none] ∧ H2 = H ∧ ∀ d, d < k → d ∈ bl) (fun (σ : L2.St) (_ : Hp) => match σ with | [_, _, some (V.int k), _] => bl.length - k.toNat | _ => 0)
        ⟨0, rfl, rfl, fun d hd => absurd hd (Nat.not_lt_zero _)⟩ ?_ ?_
      · rintro σ H2 ⟨k, rfl, rfl, hk2⟩
        refine ⟨_, rfl, _, rfl, p, C, dx, _, .ref b, rfl, h1, m.T.cl, m.T.nb, lk_blocks b a t, b, _, rfl, .inr hb, rfl, by rw [List.all_map]; exact List.all_eq_true.mpr fun _ _ => rfl, _, rfl, ?_⟩
        show if inV (nV k) (bl.map nV) = true then _ else _
        rw [inV_nat]
        refine ite_ok (fun hin => ?_) fun hin => ?_
        · have hle : k + 1 ≤ bl.length := range_sub fun d hd => by
            by_cases h : d = k
            · exact h ▸ hin
            · exact hk2 d (by omega)
          refine ⟨_, rfl, _, _, rfl, rfl, ⟨k + 1, rfl, rfl, fun d hd => ?_⟩, ?_⟩
          · by_cases h : d = k
            · exact h ▸ hin
            · exact hk2 d (by omega)
          · show bl.length - ((k : Int) + 1).toNat < bl.length - ((k : Int)).toNat
            omega
        · refine ⟨_, rfl, p, C, dx, _, .ref b, rfl, h1, m.T.cl, m.T.nb, lk_blocks b a t, _, rfl, (c : Int), rfl, b, _, rfl, hb, ?_, fun p1 n1 => ?_⟩
          · rintro ⟨_, z⟩
            rw [HT.sIx_nat, List.length_map] at z
            omega
          rw [cut_lo _ (by rw [List.length_map]; omega)]
          have s1 : Same H2 (upd H2 p1 (.tup ((bl.map nV).take c))) := same_upd n1
          have e1 : upd H2 p1 (.tup ((bl.map nV).take c)) p1 = some (.tup ((bl.map nV).take c)) := upd_same
          generalize upd H2 p1 (.tup ((bl.map nV).take c)) = H3 at s1 e1 ⊢
          refine ⟨_, rfl, by show 1 ≤ sizeLine; rw [sizeLine_eq]; decide, fun p2 n2 => ?_⟩
          have s2 : Same H3 (upd H3 p2 (.tup [nV k])) := same_upd n2
          have e2 : upd H3 p2 (.tup [nV k]) p2 = some (.tup [nV k]) := upd_same
          generalize upd H3 p2 (.tup [nV k]) = H4 at s2 e2 ⊢
          refine catA_of (.inl (.inl (s2 _ _ e1))) (.inl (.inl e2)) (by rw [List.length_take, List.length_map, sizeLine_eq]; show min c bl.length + 1 ≤ _; omega) fun p3 H5 s3 e3 => ?_
          have s13 := (s1.trans s2).trans s3
          refine ⟨_, rfl, p, C, dx, _, .ref b, rfl, s13 _ _ h1, m.T.cl, m.T.nb, lk_blocks b a t, _, rfl, _, _, rfl, rfl, _, rfl, b, _, rfl, same_seqT s13 hb, ?_, fun p4 n4 => ?_⟩
          · rintro ⟨z, _⟩
            rw [show ((c : Int) + 1) = ((c + 1 : Nat) : Int) from rfl, HT.sIx_nat, List.length_map] at z
            omega
          rw [cut_hi _ (by rw [List.length_map]; exact hc)]
          have s4 : Same H5 (upd H5 p4 (.tup ((bl.map nV).drop (c + 1)))) := same_upd n4
          have e4 : upd H5 p4 (.tup ((bl.map nV).drop (c + 1))) p4 = some (.tup ((bl.map nV).drop (c + 1))) := upd_same
          generalize upd H5 p4 (.tup ((bl.map nV).drop (c + 1))) = H6 at s4 e4 ⊢
          refine catA_of (same_seqT s4 e3) (.inl (.inl e4)) (by rw [List.length_append, List.length_take, List.length_drop, List.length_map, sizeLine_eq]; show min c bl.length + 1 + (bl.length - (c + 1)) ≤ _; omega) fun p5 H7 s5 e5 => ?_
          rw [set_cut hc] at e5
          have s6 := (s13.trans s4).trans s5
          dsimp only [gName]
          refine st_eq (σ' := [some (.ref p), some (nV c), some (nV k), some (.ref p5)]) rfl ?_
          have ls : (bl.set c k).length = bl.length := List.length_set
          exact ⟨_, rfl, _, rfl, p, C, dx, _, .ref a, rfl, s6 _ _ h1, m.T.cl, m.T.nn, lk_needs b a t, p5, a, bl.set c k, ns, rfl, e5, ha.same s6, ft.nd, by rw [ls]; exact ft.inn, by rw [ls]; exact ft.few, ft.nfew, by rw [ls]; exact hk.fars.no, fun q2 f2 H8 s8 n8 hk8 =>
            q c k rfl hc hin hk2 q2 H8 f2 (s6.trans s8) (s6.free n8) hk8⟩
      · rintro σ H7 Q1 Q2 hq ⟨v, e, v0, e0, a, C, dx, fs, u, x1, x2, x3, x4, x5, p, xs, y1, y2, y3, y4, b, eb, z⟩
        exact ⟨v, e, v0, e0, a, C, dx, fs, u, x1, x2, x3, x4, x5, p, xs, y1, y2, y3, y4, b, eb, hq _ _ z⟩
end
end Rip

/-! is_lot_below, above. -/
namespace Rip
open PySem PySem.Spec PyProof.Rows L2
/-- whether these are ascending numbers below n, the first one beyond what was ahead -/
def lotGo (n : Int) : Int → List V → Bool
  | _, [] => true
  | a, .int i :: r => (decide (0 ≤ i ∧ i < n) && decide (a < i)) && lotGo n i r
  | _, _ :: _ => false
theorem lotGo_nat (n : Nat) : ∀ (xs : List V) (a : Int), lotGo n a xs = true → ∃ l : List Nat, xs = l.map nV ∧ l.Pairwise (· < ·) ∧ ∀ i ∈ l, i < n ∧ a < (i : Int) := by
  intro xs
  induction xs with
  | nil => exact fun a _ => ⟨[], rfl, .nil, fun _ h => nomatch h⟩
  | cons x r ih =>
    intro a h
    cases x with
    | int i =>
      have h : ((decide (0 ≤ i ∧ i < (n : Int)) && decide (a < i)) && lotGo n i r) = true := h
      rw [Bool.and_eq_true, Bool.and_eq_true, decide_eq_true_eq, decide_eq_true_eq] at h
      obtain ⟨⟨h1, h2⟩, h3⟩ := h
      obtain ⟨l, rfl, hp, hl⟩ := ih i h3
      refine ⟨i.toNat :: l, ?_, List.pairwise_cons.mpr ⟨fun j hj => ?_, hp⟩, fun j hj => ?_⟩
      · rw [List.map_cons]
        congr 2
        omega
      · have := (hl j hj).2
        omega
      · rcases List.mem_cons.mp hj with e | hj
        · subst e
          omega
        · have := hl j hj
          omega
    | _ => cases h
theorem lotGo_map (n : Nat) : ∀ (l : List Nat) (a : Int), l.Pairwise (· < ·) → (∀ i ∈ l, i < n ∧ a < (i : Int)) → lotGo n a (l.map nV) = true := by
  intro l
  induction l with
  | nil => exact fun _ _ _ => rfl
  | cons i l ih =>
    intro a hp h
    obtain ⟨h1, h2⟩ := h i List.mem_cons_self
    have hp' := List.pairwise_cons.mp hp
    show ((decide (0 ≤ (i : Int) ∧ (i : Int) < (n : Int)) && decide (a < (i : Int))) && lotGo n i (l.map nV)) = true
    rw [decide_eq_true (by omega), decide_eq_true h2, ih i hp'.2 fun j hj => ⟨(h j (List.mem_cons_of_mem _ hj)).1, by have := hp'.1 j hj; omega⟩]
    rfl
section
variable {P : Program} {w : World} {K : PySem.W.Frag} {mg : Str → Option Value} {base : Heap}
abbrev s_above : Stmt := top 26
/-! ### is_lot_below -/
def spIsLot (K : PySem.W.Frag) : Sp := fun vs H Q _ => ∃ (n : Nat) (v : V) (tp : Bool), vs = [nV n, v] ∧ ObT K H v tp ∧ (tp = false → Q (.bl false) H) ∧
  (tp = true → ∃ (t : Addr) (xs : List V), v = .ref t ∧ SqT K H t xs ∧ (∀ x ∈ xs, Ob K H x) ∧ Q (.bl (lotGo n (-1) xs)) H)
abbrev scIlN : List Str := ["bound", "thing", "ahead", "item"]
theorem scIl : FnScope scIlN ["bound", "thing"] (defScope s_islot) := ⟨rfl, rfl, rfl, by decide +kernel, rfl, by decide +kernel, by decide +kernel⟩
theorem drop_one {α : Type} {l : List α} {i : Nat} {x : α} (h : l[i]? = some x) : l.drop i = x :: l.drop (i + 1) := by
  obtain ⟨hi, e⟩ := List.getElem?_eq_some_iff.mp h
  rw [List.drop_eq_getElem_cons hi, e]
theorem ok_islot {f fB fN : Addr} {fd fdB fdN : FuncData} (F : Fun K "is_lot_below" "is_lot_below" s_islot f fd) (B : Blt mg) (FB : Fun K "is_number_below" "is_number_below" s_isbelow fB fdB) (bB : Binds K fdB ["bound", "thing"] []) (gB : mg "is_number_below" = some (.ref fB))
    (FN : NumT K mg fN fdN) (bN : Binds K fdN ["thing"] []) (gN : mg "is_number" = some (.ref fN)) : FnOk P w K mg base CX0 4 f fd ["bound", "thing"] (spIsLot K) := by
  have GB : FnOk P w K mg base CX0 3 fB fdB ["bound", "thing"] (spIsBelow K) := ok_isbelow FB FN bN gN B
  refine F.ok scIl (fun vs H Q E h => ?_) (fun cdv A outer s H vs Q E hr h => ?_)
  · obtain ⟨n, v, tp, rfl, _⟩ := h
    rfl
  · obtain ⟨n, v, tp, rfl, ot, q0, q1⟩ := h
    refine ⟨_,
      (pss_cons (ps_if (pt_not (pt_val (pe_callB call_isi (by rfl) B.isinstance PyProof.Rows.boot_isinstance (pa_cons (pv 1) (pa_cons (pe_bltn (v := .ty "tuple") (by rfl) B.tuple PyProof.Rows.boot_tuple rfl) pa_nil)))))
        (pss_one (ps_ret pe_bl)) pss_nil)
      (pss_cons (ps_set (i := 2) scIl.nd rfl (.inl rfl) (pe_un un_neg pe_int))
      (pss_cons (ps_for PassesOwn.never rfl (pi_tup (pv 1)) (pg_name (i := 3) scIl.nd rfl (.inl rfl))
        (pss_cons (ps_if (pw_or (pt_not (pt_val (pe_call GB hr (by rfl) gB FB.kp bB .nil pass0 (pa_cons (pv 0) (pa_cons (pv 3) pa_nil))))) (pw_or1 (pt_cmpR op_le (pv 3) (pv 2) (nomark _)))).pt
          (pss_one (ps_ret pe_bl)) pss_nil)
        (pss_one (ps_set (i := 2) scIl.nd rfl (.inl rfl) (pv 3)))))
      (pss_one (ps_ret pe_bl))))), ?_⟩
    obtain ⟨tt, ty, k1⟩ := ot
    refine ⟨_, rfl, v, _, tt, _, tp, rfl, .ty "tuple", ty, k1, _, rfl, ?_⟩
    cases tp with
    | false => exact iteT (q0 rfl)
    | true =>
      obtain ⟨t, xs, rfl, hS, ho, q⟩ := q1 rfl
      refine iteF ?_
      refine ⟨_, rfl, _, rfl, t, rfl, ⟨_, hS⟩, for_it (walk_tup (K := K) (a := t) (xs := xs)) (fun i σ H2 => H2 = H ∧ ∃ (z : Int) (y : Option V), σ = [some (nV n), some (.ref t), some (.int z), y] ∧ lotGo n (-1) xs = lotGo n z (xs.drop i)) ⟨rfl, -1, none, rfl, rfl⟩ (fun i σ H2 _ z => z.1 ▸ hS) ?_ ?_⟩
      · rintro i x σ H2 H' hi ⟨rfl, z, y, rfl, el⟩ ⟨rfl, ex⟩
        have hob := ho x (at_mem ex)
        rw [drop_one ex] at el
        refine ⟨_, rfl, _, rfl, _, _, rfl, hob, _, rfl, ?_⟩
        have no : isBelow n x = false → lotGo n z (x :: xs.drop (i + 1)) = false := fun h => by
          cases x with
          | int k =>
            have h : decide (0 ≤ k ∧ k < (n : Int)) = false := h
            show ((decide (0 ≤ k ∧ k < (n : Int)) && decide (z < k)) && lotGo n k (xs.drop (i + 1))) = false
            rw [h]
            rfl
          | _ => rfl
        cases e : isBelow n x with
        | false =>
          rw [no e] at el
          rw [el] at q
          exact iteT q
        | true =>
          obtain ⟨k, rfl, hk⟩ := below_nat e
          refine iteF ?_
          refine ⟨_, rfl, _, rfl, _, _, rfl, rfl, _, rfl, ?_⟩
          have el2 : lotGo n z (nV k :: xs.drop (i + 1)) = (decide (z < (k : Int)) && lotGo n k (xs.drop (i + 1))) := by
            show ((decide (0 ≤ (k : Int) ∧ (k : Int) < (n : Int)) && decide (z < (k : Int))) && lotGo n k (xs.drop (i + 1))) = _
            rw [decide_eq_true (by omega), Bool.true_and]
          rw [el2] at el
          refine ite_ok (fun hz => ?_) fun hz => ?_
          · rw [decide_eq_false (by omega), Bool.false_and] at el
            rw [el] at q
            exact q
          · rw [decide_eq_true (by omega), Bool.true_and] at el
            exact ⟨_, rfl, rfl, (k : Int), _, rfl, el⟩
      · rintro σ H2 ⟨rfl, z, y, rfl, el⟩
        rw [List.drop_length] at el
        rw [el] at q
        exact q
end
end Rip

/-! above. -/
namespace Rip
open PySem PySem.Spec PyProof.Rows L2
theorem bit_one (m c : Nat) : Builtin.bitAnd ((m : Int) / 2 ^ c) 1 = if m.testBit c = true then 1 else 0 := by
  have e : ((m : Int) / 2 ^ c) = ((m / 2 ^ c : Nat) : Int) := by
    rw [Int.natCast_ediv, Int.natCast_pow]
    rfl
  rw [e, show (1 : Int) = ((1 : Nat) : Int) from rfl, band_nat, Nat.and_one_is_mod]
  have h := Nat.testBit_eq_decide_div_mod_eq (x := m) (i := c)
  rw [h]
  by_cases z : m / 2 ^ c % 2 = 1
  · rw [z]
    simp
  · have z0 : m / 2 ^ c % 2 = 0 := by omega
    rw [z0]
    simp
/-- the changes that need c -/
def aboveOf (f : List Nat) (c k : Nat) : List Nat := (List.range k).filter fun o => (f.getD o 0).testBit c
theorem aboveOf_succ (f : List Nat) (c k : Nat) {m : Nat} (h : f[k]? = some m) : aboveOf f c (k + 1) = aboveOf f c k ++ (if m.testBit c = true then [k] else []) := by
  unfold aboveOf
  rw [List.range_succ, List.filter_append, List.filter_cons]
  have e : f.getD k 0 = m := by
    rw [List.getD_eq_getElem?_getD, h]
    rfl
  rw [e]
  rfl
theorem aboveOf_len (f : List Nat) (c k : Nat) : (aboveOf f c k).length ≤ k := Nat.le_trans (List.length_filter_le _ _) (by rw [List.length_range]; exact Nat.le_refl _)
/-- m >> c & 1, of the names in slots i and j, as a test -/
abbrev tBit (i j : Nat) : TE := tOp (rI0 fun i j => .int (Builtin.bitAnd i j)) (tOp (fun x y H Q => ∃ (i : Int) (k : Nat), x = .int i ∧ y = .int (k : Int) ∧ Q (.int (i / 2 ^ k)) H) (tVar i) (tVar j)) (tC (.int 1))
abbrev tTru (K : PySem.W.Frag) (te : TE) : TT := fun σ H Q => te σ H fun x H' => ∃ k, TruV K x H' k ∧ Q k H'
/-- a, b = a tuple of two -/
abbrev gTwo (K : PySem.W.Frag) (i j : Nat) : TG := gTup K 2 (gCons (gName i) (gCons (gName j) gNil))
section
variable {P : Program} {w : World} {K : PySem.W.Frag} {mg : Str → Option Value} {base : Heap}
def spAbove (K : PySem.W.Frag) (C CN : Addr) : Sp := fun vs H Q E => ∃ (p : Addr) (v : V) (bl : List Nat) (ns : List (Nat × Nat)) (f : List Nat), vs = [.ref p, v] ∧ BookAt K C H p bl ns f ∧ bl.length ≤ 100000 ∧ Ob K H v ∧
  (isBelow bl.length v = false → E (.ref CN) none H) ∧
  ∀ c, v = nV c → c < bl.length → ∀ (t : Addr) (H' : Hp), Same H H' → H t = none → H' t = some (.tup ((aboveOf f c bl.length).map nV)) → Q (.ref t) H'
abbrev scAbN : List Str := ["book", "change", "other", "mask"]
theorem scAb : FnScope scAbN ["book", "change"] (defScope s_above) := ⟨rfl, rfl, rfl, by decide +kernel, rfl, by decide +kernel, by decide +kernel⟩
theorem ok_above {C CN f fI fB fN : Addr} {fd fdI fdB fdN : FuncData} (F : Fun K "above" "above" s_above f fd) (B : Blt mg) (T : BkT K mg C) (Er : ErT K mg "NoChange" CN)
    (FI : Fun K "is_change" "is_change" s_ischange fI fdI) (bI : Binds K fdI ["book", "thing"] []) (gI : mg "is_change" = some (.ref fI))
    (FB : Fun K "is_number_below" "is_number_below" s_isbelow fB fdB) (bB : Binds K fdB ["bound", "thing"] []) (gB : mg "is_number_below" = some (.ref fB))
    (FN : NumT K mg fN fdN) (bN : Binds K fdN ["thing"] []) (gN : mg "is_number" = some (.ref fN)) :
    FnOk P w K mg base (L2.CX P w) 5 f fd ["book", "change"] (spAbove K C CN) := by
  have GI : FnOk P w K mg base CX0 4 fI fdI ["book", "thing"] (spIsChange K C) := ok_ischange FI B T FB bB gB FN bN gN
  refine F.okX scAb (fun vs H Q E h => ?_) (fun cdv A outer s H vs Q E hr h => ?_)
  · obtain ⟨p, v, bl, ns, f, rfl, _⟩ := h
    rfl
  · obtain ⟨p, v, bl, ns, fs, rfl, hk, hn, ob, qe, q⟩ := h
    refine ⟨_,
      (pss_cons (ps_if (pt_not (pt_val (pe_call GI hr (by rfl) gI FI.kp bI .nil pass0 (pa_cons (pv 0) (pa_cons (pv 1) pa_nil)))))
        (pss_one (ps_raise rfl (takes_of rfl rfl rfl rfl) (pmk_own0 PySem.F.excBase_ValueError Er.x Er.g Er.k (raises_own Er.b Er.t) (by exact rfl)))) pss_nil)
      (pss_one (ps_ret (pe_tupleOf (by rfl) B.tuple (pe_lc (own := [("other", 2), ("mask", 3)]) (g := gTwo K 2 3) (tt := tTru K (tBit 3 1)) rfl scAb.nd (pi_enumT (by rfl) B.enumerate (pa_cons (pe_fld (pv 0) rfl) pa_nil)) (blkOk_by (own := [("other", 2), ("mask", 3)]) (N := scAbN) (sc := defScope s_above) (by decide +kernel)) (fun _ _ _ _ _ => (pg_tup rfl (pgs_cons (pg_name (i := 2) scAb.nd rfl (.inl rfl)) (pgs_cons (pg_name (i := 3) scAb.nd rfl (.inl rfl)) pgs_nil)))) (fun _ _ _ _ _ => (pts_one (pt_truth (pe_op op_and (pe_op op_shrN (pv 3) (pv 1)) pe_int) (by intro _; rfl)))) (fun _ _ _ _ _ => (pv 2))))))), ?_⟩
    refine ⟨_, rfl, _, rfl, p, v, bl, ns, fs, rfl, hk, ob, _, rfl, ?_⟩
    cases e : isBelow bl.length v with
    | false => exact iteT (qe e)
    | true =>
      refine iteF ?_
      obtain ⟨c, rfl, hc⟩ := below_nat e
      have hl : fs.length = bl.length := hk.fars.len
      obtain ⟨dx, b, a, t, h1, h2, h3, ht⟩ := hk.ob
      refine ⟨_, rfl, p, C, dx, _, .ref t, rfl, h1, T.cl, T.nf, lk_far b a t, t, _, rfl, ht, fun D nD => ?_⟩
      refine lc_it (walk_enumT (K := K) (a := t) (xs := fs.map nV)) (fun i H2 => Same H H2 ∧ H2 D = some (.lst ((aboveOf fs c i).map nV)))
        ⟨same_upd nD, by rw [upd_same]; rfl⟩ (fun i H2 _ z => same_seqT z.1 ht) ?_ ?_
      · rintro i x H2 H3 hi ⟨s2, eD⟩ ⟨T1, v1, v2, rfl, nT, rfl, e1, e2⟩
        have e1' : V.int (i : Int) = v1 := Option.some.inj e1
        subst e1'
        have e2 : (fs.map nV)[i]? = some v2 := e2
        rw [List.length_map] at hi
        rw [List.getElem?_map] at e2
        have em : fs[i]? = some fs[i] := List.getElem?_eq_getElem hi
        rw [em] at e2
        cases e2
        generalize fs[i] = m at em
        have nTD : D ≠ T1 := ne_of_none eD nT
        have s3 : Same H (upd H2 T1 (.tup [.int (i : Int), nV m])) := s2.trans (same_upd nT)
        have eD3 : upd H2 T1 (.tup [.int (i : Int), nV m]) D = some (.lst ((aboveOf fs c i).map nV)) := by rw [upd_ne nTD]; exact eD
        refine ⟨T1, _, rfl, .inl (.inl upd_same), rfl, _, _, rfl, _, [], rfl, rfl, ?_⟩
        generalize upd H2 T1 (.tup [.int (i : Int), nV m]) = H3 at s3 eD3 ⊢
        refine ⟨rfl, _, rfl, _, rfl, m, c, rfl, rfl, _, _, rfl, rfl, _, rfl, ?_⟩
        rw [bit_one]
        have suc := aboveOf_succ fs c i em
        cases eb : m.testBit c with
        | false =>
          rw [eb] at suc
          refine ⟨s3, ?_⟩
          rw [suc]
          simpa using eD3
        | true =>
          rw [eb] at suc
          refine ⟨_, rfl, _, eD3, ?_, same_put s3 nD, ?_⟩
          · have := aboveOf_len fs c i
            rw [List.length_map, sizeLine_eq]
            omega
          · rw [upd_same, suc, List.map_append]
            rfl
      · rintro H2 ⟨s2, eD⟩
        rw [List.length_map, hl] at eD
        refine .inl ⟨D, _, rfl, .inl (.inl eD), fun t2 nt2 => ?_⟩
        have nt0 : H t2 = none := s2.free nt2
        exact q c rfl hc t2 _ (same_put s2 nt0) nt0 upd_same
end
end Rip

/-! day. -/
namespace Rip
open PySem PySem.Spec PyProof.Rows L2
/-! ### the needs of a day -/
def dayRow (l : List Nat) (i m : Nat) : List (Nat × Nat) := (lotOf (m &&& maskOf l)).map fun o => (i, l.idxOf o)
def dayNs (l f : List Nat) (k : Nat) : List (Nat × Nat) := (List.range k).flatMap fun i => dayRow l i (f.getD (l.getD i 0) 0)
theorem getD_some {α : Type} {l : List α} {i : Nat} {x d : α} (h : l[i]? = some x) : l.getD i d = x := by
  rw [List.getD_eq_getElem?_getD, h]
  rfl
theorem dayNs_succ {l f : List Nat} {k c m : Nat} (h : l[k]? = some c) (hm : f[c]? = some m) : dayNs l f (k + 1) = dayNs l f k ++ dayRow l k m := by
  unfold dayNs
  rw [List.range_succ, List.flatMap_append, List.flatMap_cons, List.flatMap_nil, List.append_nil, getD_some h, getD_some hm]
theorem mem_row {l : List Nat} {i m : Nat} {z : Nat × Nat} : z ∈ dayRow l i m ↔ ∃ o, m.testBit o = true ∧ o ∈ l ∧ z = (i, l.idxOf o) := by
  unfold dayRow
  rw [List.mem_map]
  constructor
  · rintro ⟨o, ho, rfl⟩
    rw [mem_lotOf, Nat.testBit_and, Bool.and_eq_true, bit_maskOf, decide_eq_true_eq] at ho
    exact ⟨o, ho.1, ho.2, rfl⟩
  · rintro ⟨o, h1, h2, rfl⟩
    exact ⟨o, by rw [mem_lotOf, Nat.testBit_and, h1, bit_maskOf, decide_eq_true h2]; rfl, rfl⟩
theorem mem_day {l f : List Nat} {k : Nat} {z : Nat × Nat} : z ∈ dayNs l f k ↔ z.1 < k ∧ ∃ o, (f.getD (l.getD z.1 0) 0).testBit o = true ∧ o ∈ l ∧ z.2 = l.idxOf o := by
  unfold dayNs
  rw [List.mem_flatMap]
  constructor
  · rintro ⟨i, hi, hz⟩
    rw [mem_row] at hz
    obtain ⟨o, h1, h2, rfl⟩ := hz
    exact ⟨List.mem_range.mp hi, o, h1, h2, rfl⟩
  · rintro ⟨h, o, h1, h2, h3⟩
    exact ⟨z.1, List.mem_range.mpr h, mem_row.mpr ⟨o, h1, h2, by rw [← h3]⟩⟩
theorem idx_lt {l : List Nat} {o : Nat} (h : o ∈ l) : l.idxOf o < l.length := List.idxOf_lt_length_of_mem h
theorem idx_get {l : List Nat} {o : Nat} (h : o ∈ l) : l[l.idxOf o]? = some o := by
  rw [List.getElem?_eq_getElem (idx_lt h), List.getElem_idxOf (idx_lt h)]
theorem idx_inj {l : List Nat} {o p : Nat} (ho : o ∈ l) (hp : p ∈ l) (e : l.idxOf o = l.idxOf p) : o = p := by
  have h1 := idx_get ho
  rw [e, idx_get hp] at h1
  exact (Option.some.inj h1).symm
theorem row_nodup (l : List Nat) (i m : Nat) : (dayRow l i m).Nodup := by
  unfold dayRow
  have asc := asc_lotOf (m &&& maskOf l)
  have hin : ∀ o ∈ lotOf (m &&& maskOf l), o ∈ l := fun o ho => by
    rw [mem_lotOf, Nat.testBit_and, Bool.and_eq_true, bit_maskOf, decide_eq_true_eq] at ho
    exact ho.2
  refine List.pairwise_map.mpr (asc.imp_of_mem fun {a b} ha hb h e => ?_)
  have := idx_inj (hin a ha) (hin b hb) (Prod.mk.inj e).2
  omega
theorem day_nodup (l f : List Nat) : ∀ k, (dayNs l f k).Nodup := by
  intro k
  induction k with
  | zero => exact .nil
  | succ k ih =>
    have e : dayNs l f (k + 1) = dayNs l f k ++ dayRow l k (f.getD (l.getD k 0) 0) := by
      unfold dayNs
      rw [List.range_succ, List.flatMap_append, List.flatMap_cons, List.flatMap_nil, List.append_nil]
    rw [e]
    refine List.nodup_append.mpr ⟨ih, row_nodup _ _ _, fun a ha b hb e => ?_⟩
    rw [mem_day] at ha
    rw [mem_row] at hb
    obtain ⟨o, _, _, rfl⟩ := hb
    subst e
    exact absurd ha.1 (by simp)
theorem row_len {l : List Nat} (hl : l.Pairwise (· < ·)) (i m : Nat) : (dayRow l i m).length ≤ l.length := by
  unfold dayRow
  rw [List.length_map]
  have hn : (lotOf (m &&& maskOf l)).Nodup := (asc_lotOf _).imp fun {a b} h e => by omega
  have hn2 : ((lotOf (m &&& maskOf l)).map l.idxOf).Nodup := by
    refine List.pairwise_map.mpr ((asc_lotOf (m &&& maskOf l)).imp_of_mem fun {a b} ha hb h e => ?_)
    have hin : ∀ o ∈ lotOf (m &&& maskOf l), o ∈ l := fun o ho => by
      rw [mem_lotOf, Nat.testBit_and, Bool.and_eq_true, bit_maskOf, decide_eq_true_eq] at ho
      exact ho.2
    have := idx_inj (hin a ha) (hin b hb) e
    omega
  have := nodup_below (n := l.length) hn2 fun d hd => by
    obtain ⟨o, ho, rfl⟩ := List.mem_map.mp hd
    rw [mem_lotOf, Nat.testBit_and, Bool.and_eq_true, bit_maskOf, decide_eq_true_eq] at ho
    exact idx_lt ho.2
  rw [List.length_map] at this
  exact this
theorem day_len {l f : List Nat} (hl : l.Pairwise (· < ·)) : ∀ k, (dayNs l f k).length ≤ k * l.length := by
  intro k
  induction k with
  | zero => exact Nat.zero_le _
  | succ k ih =>
    have e : dayNs l f (k + 1) = dayNs l f k ++ dayRow l k (f.getD (l.getD k 0) 0) := by
      unfold dayNs
      rw [List.range_succ, List.flatMap_append, List.flatMap_cons, List.flatMap_nil, List.append_nil]
    rw [e, List.length_append, Nat.succ_mul]
    have := row_len hl k (f.getD (l.getD k 0) 0)
    omega
theorem far_day {l f : List Nat} {n : Nat} {ns : List (Nat × Nat)} (hf : FarsOf n ns f) (hl : ∀ c ∈ l, c < n) {i j : Nat} (h : Far (dayNs l f l.length) i j) : ∃ c o, l[i]? = some c ∧ l[j]? = some o ∧ Far ns c o := by
  have one : ∀ {i j}, (i, j) ∈ dayNs l f l.length → ∃ c o, l[i]? = some c ∧ l[j]? = some o ∧ Far ns c o := fun {i j} h => by
    rw [mem_day] at h
    obtain ⟨hi, o, h1, h2, h3⟩ := h
    simp only at hi h1 h3
    subst h3
    have e1 : l[i]? = some l[i] := List.getElem?_eq_getElem hi
    generalize l[i] = c at e1
    have hc := hl c (List.mem_of_getElem? e1)
    have hcl : c < f.length := by rw [hf.len]; exact hc
    have e2 : f[c]? = some f[c] := List.getElem?_eq_getElem hcl
    generalize f[c] = m at e2
    rw [getD_some e1, getD_some e2] at h1
    exact ⟨c, o, e1, idx_get h2, (hf.bits c m e2 o).mp h1⟩
  induction h with
  | one h => exact one h
  | step h _ ih =>
    obtain ⟨c, m, h1, h2, h3⟩ := one h
    obtain ⟨m', o, h4, h5, h6⟩ := ih
    rw [h2] at h4
    cases h4
    exact ⟨c, o, h1, h5, h3.trans h6⟩
/-! ### walks within comprehensions -/
theorem lc_walk {J : It} {n : Nat} {G : Hp → Prop} {Y : Nat → Hp → V → Hp → Prop} (w : Walk J n G Y) {H0 : Hp} {Qd : Hp → Prop} {body : (Hp → Prop) → V → Hp → Prop} (Pv : Nat → Hp → Prop) (h0 : Pv 0 H0) (hG : ∀ i H, i ≤ n → Pv i H → G H)
    (hs : ∀ i x H H', i < n → Pv i H → Y i H x H' → body (Pv (i + 1)) x H') (hd : ∀ H, Pv n H → Qd H) :
    ∃ W : Nat → Nat → Hp → Prop, (∃ m, W 0 m H0) ∧ ∀ i m H, W i m H → (J.stop i H ∧ Qd H) ∨ (J.go i H ∧ ∃ Nx : Hp → Prop, (∀ H', Nx H' → ∃ m', m' < m ∧ W (i + 1) m' H') ∧ ∀ x H', J.yld i H x H' → body Nx x H') := by
  refine ⟨fun i m H => m = n - i ∧ i ≤ n ∧ Pv i H, ⟨n, by simp, Nat.zero_le _, h0⟩, ?_⟩
  rintro i m H ⟨rfl, hi, p⟩
  have q := hG i H hi p
  by_cases hlt : i < n
  · refine .inr ⟨w.goes i H hlt q, Pv (i + 1), fun H' p' => ⟨n - (i + 1), by omega, rfl, hlt, p'⟩, fun x H' y => hs i x H H' hlt p (w.yields i H x H' hlt q y)⟩
  · have e : i = n := by omega
    subst e
    exact .inl ⟨w.stops H q, hd H p⟩
section
variable {P : Program} {w : World} {K : PySem.W.Frag} {mg : Str → Option Value} {base : Heap}
/-- a list of pairs -/
def PrL (H : Hp) (D : Addr) (ns : List (Nat × Nat)) : Prop := ∃ rs : List Addr, H D = some (.lst (rs.map V.ref)) ∧ rs.length = ns.length ∧ ∀ (i : Nat) (r : Addr) (p : Nat × Nat), rs[i]? = some r → ns[i]? = some p → H r = some (.tup [nV p.1, nV p.2])
theorem PrL.nil {H : Hp} {D : Addr} (h : H D = some (.lst [])) : PrL H D [] := ⟨[], h, rfl, fun i r p e _ => by cases e⟩
theorem seqT_putL {H : Hp} {p a : Addr} {o : HO} {zs xs : List V} (hp : H p = some (.lst zs)) (h : SqT K H a xs) : SqT K (upd H p o) a xs := by
  unfold SqT at *
  rcases h with (h | ⟨u, h⟩) | h
  · exact .inl (.inl (by rw [upd_ne (ne_of h hp (by intro z; cases z))]; exact h))
  · exact .inl (.inr ⟨u, by rw [upd_ne (ne_of h hp (by intro z; cases z))]; exact h⟩)
  · exact .inr h
theorem PrL.keep {H H' : Hp} {D : Addr} {ns : List (Nat × Nat)} (h : PrL H D ns) (hD : ∀ xs, H D = some (.lst xs) → H' D = some (.lst xs)) (s : ∀ r xs, H r = some (.tup xs) → H' r = some (.tup xs)) : PrL H' D ns := by
  obtain ⟨rs, h1, h2, h3⟩ := h
  exact ⟨rs, hD _ h1, h2, fun i r p x y => s r _ (h3 i r p x y)⟩
theorem PrL.same {H H' : Hp} {D : Addr} {ns : List (Nat × Nat)} (h : PrL H D ns) (s : Same H H') : PrL H' D ns := h.keep (fun _ e => s _ _ e) fun _ _ e => s _ _ e
theorem PrL.snoc {H : Hp} {D T : Addr} {ns : List (Nat × Nat)} {i j : Nat} (h : PrL H D ns) (hl : ns.length < 2000000) (hT : H T = some (.tup [nV i, nV j])) :
    ∃ acc, H D = some (.lst acc) ∧ acc.length < sizeLine ∧ PrL (upd H D (.lst (acc ++ [.ref T]))) D (ns ++ [(i, j)]) := by
  obtain ⟨rs, h1, h2, h3⟩ := h
  have keep : ∀ {r : Addr} {xs : List V} {o : HO}, H r = some (.tup xs) → upd H D o r = some (.tup xs) := fun {r xs o} e => by
    rw [upd_ne (ne_of e h1 (by intro z; cases z))]
    exact e
  refine ⟨_, h1, by rw [List.length_map, sizeLine_eq]; omega, rs ++ [T], by rw [upd_same, List.map_append]; rfl, by rw [List.length_append, List.length_append, h2]; rfl, fun k r p x y => ?_⟩
  by_cases hk : k < rs.length
  · rw [List.getElem?_append_left hk] at x
    rw [List.getElem?_append_left (by omega)] at y
    exact keep (h3 k r p x y)
  · have e : k = rs.length := by
      have := (List.getElem?_eq_some_iff.mp x).1
      rw [List.length_append] at this
      have : k < rs.length + 1 := this
      omega
    subst e
    rw [List.getElem?_append_right (Nat.le_refl _), Nat.sub_self] at x
    rw [h2, List.getElem?_append_right (Nat.le_refl _), Nat.sub_self] at y
    have x' : T = r := Option.some.inj x
    have y' : (i, j) = p := Option.some.inj y
    subst x'
    subst y'
    exact keep hT
/-- two of them, the one behind the other -/
theorem PrL.cat {H : Hp} {D D2 : Addr} {ns ms : List (Nat × Nat)} (h : PrL H D ns) (h2 : PrL H D2 ms) (hl : ns.length + ms.length < 2000000) :
    ∃ xs ys, H D = some (.lst xs) ∧ H D2 = some (.lst ys) ∧ xs.length + ys.length ≤ sizeLine ∧ PrL (upd H D (.lst (xs ++ ys))) D (ns ++ ms) := by
  obtain ⟨rs, a1, a2, a3⟩ := h
  obtain ⟨ts, b1, b2, b3⟩ := h2
  have keep : ∀ {r : Addr} {xs : List V} {o : HO}, H r = some (.tup xs) → upd H D o r = some (.tup xs) := fun {r xs o} e => by
    rw [upd_ne (ne_of e a1 (by intro z; cases z))]
    exact e
  refine ⟨_, _, a1, b1, by rw [List.length_map, List.length_map, sizeLine_eq]; omega, rs ++ ts, by rw [upd_same, List.map_append], by rw [List.length_append, List.length_append, a2, b2], fun k r p x y => ?_⟩
  by_cases hk : k < rs.length
  · rw [List.getElem?_append_left hk] at x
    rw [List.getElem?_append_left (by omega)] at y
    exact keep (a3 k r p x y)
  · rw [List.getElem?_append_right (by omega)] at x
    rw [List.getElem?_append_right (by omega)] at y
    rw [← a2] at y
    exact keep (b3 _ r p x y)
/-- as a tuple -/
theorem PrL.tup {H : Hp} {D t : Addr} {ns : List (Nat × Nat)} (h : PrL H D ns) : ∃ rs : List Addr, H D = some (.lst (rs.map V.ref)) ∧ ∀ H', Same H H' → H' t = some (.tup (rs.map V.ref)) → PairsAt K H' t ns := by
  obtain ⟨rs, h1, h2, h3⟩ := h
  exact ⟨rs, h1, fun H' s e => ⟨rs, .inl (.inl e), h2, fun i r p x y => .inl (.inl (s _ _ (h3 i r p x y)))⟩⟩
abbrev s_day : Stmt := top 27
def spDay (K : PySem.W.Frag) (C CN : Addr) : Sp := fun vs H Q E => ∃ (p : Addr) (v : V) (bl : List Nat) (ns : List (Nat × Nat)) (f : List Nat) (tp : Bool), vs = [.ref p, v] ∧ BookAt K C H p bl ns f ∧ Fit bl ns ∧ bl.length ≤ 1000 ∧ ObT K H v tp ∧
  (tp = false → E (.ref CN) none H) ∧
  (tp = true → ∃ (t : Addr) (xs : List V), v = .ref t ∧ SqT K H t xs ∧ (∀ x ∈ xs, Ob K H x) ∧ (lotGo bl.length (-1) xs = false → E (.ref CN) none H) ∧
    ∀ l : List Nat, xs = l.map nV → l.Pairwise (· < ·) → (∀ c ∈ l, c < bl.length) → ∀ (q : Addr) (H' : Hp) (f' : List Nat), Same H H' → H q = none → BookAt K C H' q (l.map fun c => bl.getD c 0) (dayNs l f l.length) f' → Q (.ref q) H')
abbrev scDyN : List Str := ["book", "lot", "mask", "place", "at", "change", "needs", "other"]
theorem scDy : FnScope scDyN ["book", "lot"] (defScope s_day) := ⟨rfl, rfl, rfl, by decide +kernel, rfl, by decide +kernel, by decide +kernel⟩
theorem ok_day {f fO fM fL fK C CN fI fC fF fB fN fD : Addr} {fd fdO fdM fdL fdK fdI fdC fdF fdB fdN fdD : FuncData} (F : Fun K "day" "day" s_day f fd) (m : MkB K mg C fI fC fF fB fN fD fdI fdC fdF fdB fdN fdD) (Er : ErT K mg "NoLot" CN)
    (FO : Fun K "is_lot_below" "is_lot_below" s_islot fO fdO) (bO : Binds K fdO ["bound", "thing"] []) (gO : mg "is_lot_below" = some (.ref fO))
    (FL : Fun K "lot_of" "lot_of" s_lotof fL fdL) (bL : Binds K fdL ["mask"] []) (gL : mg "lot_of" = some (.ref fL))
    (FK : Fun K "mask_of" "mask_of" s_maskof fK fdK) (bK : Binds K fdK ["lot"] []) (gK : mg "mask_of" = some (.ref fK))
    (FM : Fun K "made_book" "made_book" s_made fM fdM) (bM : Binds K fdM ["blocks", "needs"] []) (gM : mg "made_book" = some (.ref fM)) :
    FnOk P w K mg base (L2.CX P w) 9 f fd ["book", "lot"] (spDay K C CN) := by
  have GO : FnOk P w K mg base CX0 4 fO fdO ["bound", "thing"] (spIsLot K) := ok_islot FO m.B m.FB m.bB m.gB m.FN m.bN m.gN
  have GL : FnOk P w K mg base CX0 1 fL fdL ["mask"] (fun vs H Q E => spLotOf vs H Q E ∧ ∃ m, vs = [nV m] ∧ m < 2 ^ 900000) := ok_lotof FL m.B
  have GK : FnOk P w K mg base CX0 1 fK fdK ["lot"] (spMaskOf K) := ok_maskof FK
  have GM : FnOk P w K mg base CX0 8 fM fdM ["blocks", "needs"] (spMade K C) := ok_made FM m
  refine F.okX scDy (fun vs H Q E h => ?_) (fun cdv A outer s H vs Q E hr h => ?_)
  · obtain ⟨p, v, bl, ns, f, tp, rfl, _⟩ := h
    rfl
  · obtain ⟨p, v, bl, ns, fs, tp, rfl, hk, ft, hn, ot, q0, q1⟩ := h
    have hu := hu_of hr
    obtain ⟨dx, b, a, t, h1, hb, ha, ht⟩ := hk.ob
    refine ⟨_,
      (pss_cons (ps_if (pt_not (pt_val (pe_call GO (hr.mono (by decide)) (by rfl) gO FO.kp bO .nil pass0 (pa_cons (pe_callB call_len_seq (by rfl) m.B.len PySem.boot_len (pa_cons (pe_fld (pv 0) rfl) pa_nil)) (pa_cons (pv 1) pa_nil)))))
        (pss_one (ps_raise rfl (takes_of rfl rfl rfl rfl) (pmk_own0 PySem.F.excBase_ValueError Er.x Er.g Er.k (raises_own Er.b Er.t) (by exact rfl)))) pss_nil)
      (pss_cons (ps_set (i := 2) scDy.nd rfl (.inr rfl) (pe_call GK (hr.mono (by decide)) (by rfl) gK FK.kp bK .nil pass0 (pa_cons (pv 1) pa_nil)))
      (pss_cons (ps_set (i := 3) scDy.nd rfl (.inr rfl) (pe_dc (own := [("at", 4), ("change", 5)]) (g := gTwo K 4 5) (tt := tYes) rfl scDy.nd (pi_enumT (by rfl) m.B.enumerate (pa_cons (pv 1) pa_nil)) (blkOk_by (own := [("at", 4), ("change", 5)]) (N := scDyN) (sc := defScope s_day) (by decide +kernel)) (fun _ _ _ _ _ => (pg_tup rfl (pgs_cons (pg_name (i := 4) scDy.nd rfl (.inl rfl)) (pgs_cons (pg_name (i := 5) scDy.nd rfl (.inl rfl)) pgs_nil)))) (fun _ _ _ _ _ => pts_nil) (fun _ _ _ _ _ => (pv 5)) (fun _ _ _ _ _ => (pv 4))))
      (pss_cons (ps_setLc2 (i := 6) (own := [("change", 5), ("other", 7)]) (vs1 := [7]) (g := gName 5) (tt := tYes) (g1 := gName 7) (tt1 := tYes)
          (wi1 := iTup K (tCall (fun vs H Q E => spLotOf vs H Q E ∧ ∃ m, vs = [nV m] ∧ m < 2 ^ 900000) [] E0 (tCons (tOp (rI0 fun i j => .int (Builtin.bitAnd i j)) (tOp (rIxT K) (tFld K (tVar 0) "far") (tVar 5)) (tVar 2)) tNil)))
          rfl scDy.nd rfl rfl (sw_true rfl rfl rfl (by decide +kernel)) (pi_tup (pv 1)) (blkOk_by (own := [("change", 5), ("other", 7)]) (N := scDyN) (sc := defScope s_day) (by decide +kernel)) (by decide) (fun _ _ _ _ _ => (pg_name (i := 5) scDy.nd rfl (.inl rfl))) (fun _ _ _ _ _ => pts_nil)
          (fun _ _ _ _ _ => (pi_tup (pe_call GL (hr.mono (by decide)) (by rfl) gL FL.kp bL .nil pass0 (pa_cons (pe_op op_and (pe_ix ix_tup (pe_fld (pv 0) rfl) (pv 5) (fun _ _ => rfl)) (pv 2)) pa_nil))))
          (fun _ _ _ _ _ => (pg_name (i := 7) scDy.nd rfl (.inl rfl))) (fun _ _ _ _ _ => pts_nil)
          (fun _ _ _ _ _ => (pe_tup (pa_cons (pe_dget hu (pv 3) (pv 5) (fun _ _ => rfl)) (pa_cons (pe_dget hu (pv 3) (pv 7) (fun _ _ => rfl)) pa_nil)))))
      (pss_one (ps_ret (pe_call GM hr (by rfl) gM FM.kp bM .nil pass0 (pa_cons (pe_tupleOf (by rfl) m.B.tuple (pe_lc (own := [("change", 5)]) (g := gName 5) (tt := tYes) (te := tOp (rIxT K) (tFld K (tVar 0) "blocks") (tVar 5)) rfl scDy.nd (pi_tup (pv 1)) (blkOk_by (own := [("change", 5)]) (N := scDyN) (sc := defScope s_day) (by decide +kernel)) (fun _ _ _ _ _ => (pg_name (i := 5) scDy.nd rfl (.inl rfl))) (fun _ _ _ _ _ => pts_nil) (fun _ _ _ _ _ => (pe_ix ix_tup (pe_fld (pv 0) rfl) (pv 5) (fun _ _ => rfl))))) (pa_cons (pe_tupleOf (by rfl) m.B.tuple (pv 6)) pa_nil))))))))), ?_⟩
    refine ⟨_, rfl, p, C, dx, _, .ref b, rfl, h1, m.T.cl, m.T.nb, lk_blocks b a t, b, _, rfl, .inr hb, _, rfl, bl.length, v, tp, by rw [List.length_map]; rfl, ot, fun e => ⟨_, rfl, iteT (q0 e)⟩, fun e => ?_⟩
    obtain ⟨t1, xs, rfl, hS, ho, q2, q3⟩ := q1 e
    refine ⟨t1, xs, rfl, hS, ho, _, rfl, ?_⟩
    cases e2 : lotGo bl.length (-1) xs with
    | false => exact iteT (q2 e2)
    | true =>
      refine iteF ?_
      obtain ⟨l, rfl, asc, hin0⟩ := lotGo_nat bl.length xs (-1) e2
      have hin : ∀ c ∈ l, c < bl.length := fun c hc => (hin0 c hc).1
      have hnd : l.Nodup := asc.imp fun {a b} h e => by omega
      have hll : l.length ≤ 1000 := Nat.le_trans (nodup_below hnd hin) hn
      have fl : fs.length = bl.length := hk.fars.len
      refine ⟨_, rfl, t1, l, rfl, hS, (fun i hi => by have := hin i hi; omega), ?_⟩
      dsimp only [gName]
      refine st_eq (σ' := [some (.ref p), some (.ref t1), some (nV (maskOf l)), none, none, none, none, none]) rfl ?_
      refine ⟨_, rfl, t1, _, rfl, hS, fun D nD => ?_⟩
      refine lc_walk (walk_enumT (K := K) (a := t1) (xs := l.map nV)) (fun i H2 => Same H H2 ∧ ∃ kvs : List (Key × V), H2 D = some (.dK kvs) ∧ kvs.length ≤ i ∧ ∀ (j c : Nat), j < i → l[j]? = some c → valV kvs (Sum.inl (c : Int)) = some (nV j))
        ⟨same_upd nD, [], upd_same, Nat.le_refl _, fun j c h => absurd h (Nat.not_lt_zero _)⟩ (fun i H2 _ z => same_seqT z.1 hS) ?_ ?_
      · rintro i x H2 H3 hi ⟨s2, kvs, eD, hk1, hk2⟩ ⟨T1, v1, v2, rfl, nT, rfl, e1, e2⟩
        have e1' : V.int (i : Int) = v1 := Option.some.inj e1
        subst e1'
        have e2 : (l.map nV)[i]? = some v2 := e2
        rw [List.length_map] at hi
        rw [List.getElem?_map] at e2
        have em : l[i]? = some l[i] := List.getElem?_eq_getElem hi
        rw [em] at e2
        cases e2
        generalize l[i] = c at em
        have nTD : D ≠ T1 := ne_of_none eD nT
        refine ⟨T1, _, rfl, .inl (.inl upd_same), rfl, _, _, rfl, _, [], rfl, rfl, ?_⟩
        refine ⟨rfl, _, rfl, _, rfl, kvs, Sum.inl (c : Int), rfl, by rw [upd_ne nTD]; exact eD, by rw [sizeLine_eq]; omega, ?_, putK kvs (Sum.inl (c : Int)) (nV i), upd_same, ?_, fun j c2 hj ec => ?_⟩
        · exact same_put (s2.trans (same_upd nT)) nD
        · have := length_putK kvs (Sum.inl (c : Int)) (nV i)
          omega
        · rw [valV_put]
          by_cases hc : c2 = c
          · subst hc
            have : j = i := by
              obtain ⟨hj1, ej⟩ := List.getElem?_eq_some_iff.mp ec
              obtain ⟨hi1, ei⟩ := List.getElem?_eq_some_iff.mp em
              have pw := List.pairwise_iff_getElem.mp asc
              rcases Nat.lt_trichotomy j i with z | z | z
              · have := pw j i hj1 hi1 z
                omega
              · exact z
              · have := pw i j hi1 hj1 z
                omega
            subst this
            rw [if_pos rfl]
          · rw [if_neg (fun z => hc (by injection z with z; omega))]
            refine hk2 j c2 ?_ ec
            by_cases hji : j = i
            · subst hji
              rw [em] at ec
              exact absurd (Option.some.inj ec).symm hc
            · omega
      · rintro H2 ⟨s2, kvs, eD, hk1, hk2⟩
        rw [List.length_map] at hk2
        dsimp only [gName]
        refine st_eq (σ' := [some (.ref p), some (.ref t1), some (nV (maskOf l)), some (.ref D), none, none, none, none]) rfl ?_
        have hS2 := same_seqT s2 hS
        refine ⟨_, rfl, t1, rfl, ⟨_, hS2⟩, fun D2 nD2 => ?_⟩
        refine lc_walk (walk_tup (K := K) (a := t1) (xs := l.map nV)) (fun i H3 => Same H2 H3 ∧ PrL H3 D2 (dayNs l fs i)) ⟨same_upd nD2, PrL.nil upd_same⟩ (fun i H3 _ z => same_seqT z.1 hS2) ?_ ?_
        · rintro i x H3 H4 hi ⟨s3, pr⟩ ⟨rfl, ex⟩
          rw [List.length_map] at hi
          rw [List.getElem?_map] at ex
          have em : l[i]? = some l[i] := List.getElem?_eq_getElem hi
          rw [em] at ex
          cases ex
          generalize l[i] = c at em
          have hc := hin c (List.mem_of_getElem? em)
          have hcl : c < fs.length := by rw [fl]; exact hc
          have ef : fs[c]? = some fs[c] := List.getElem?_eq_getElem hcl
          generalize fs[c] = mk at ef
          have s03 := s2.trans s3
          refine ⟨rfl, _, rfl, p, C, dx, _, .ref t, rfl, s03 _ _ h1, m.T.cl, m.T.nf, lk_far b a t, ?_⟩
          refine ⟨_, rfl, t, _, _, nV mk, rfl, rfl, same_seqT s03 ht, at_of (j := c) rfl (map_get ef), _, rfl, _, _, rfl, rfl, ?_⟩
          have eA : [V.int (Builtin.bitAnd ((mk : Nat) : Int) ((maskOf l : Nat) : Int))] = [nV (mk &&& maskOf l)] := congrArg (fun z => [V.int z]) (band_nat mk (maskOf l))
          refine ⟨⟨mk &&& maskOf l, eA, fun t2 H5 s5 n5 e5 => ?_⟩, mk &&& maskOf l, eA, ?_⟩
          · refine ⟨t2, rfl, ⟨_, .inl (.inl e5)⟩, ?_⟩
            have s25 := s3.trans s5
            have hrow := dayNs_succ em ef
            have hrl : (lotOf (mk &&& maskOf l)).length = (dayRow l i mk).length := by
              unfold dayRow
              rw [List.length_map]
            refine lc_walk (walk_tup (K := K) (a := t2) (xs := (lotOf (mk &&& maskOf l)).map nV)) (fun j H6 => Same H2 H6 ∧ SqT K H6 t2 ((lotOf (mk &&& maskOf l)).map nV) ∧ PrL H6 D2 (dayNs l fs i ++ (dayRow l i mk).take j))
              ⟨s25, .inl (.inl e5), by rw [List.take_zero, List.append_nil]; exact pr.same s5⟩ (fun j H6 _ z => z.2.1) ?_ ?_
            · rintro j x H7 H6 hj ⟨s6, hT2, pr6⟩ ⟨rfl, ex⟩
              rw [List.length_map] at hj
              rw [List.getElem?_map] at ex
              have eo : (lotOf (mk &&& maskOf l))[j]? = some (lotOf (mk &&& maskOf l))[j] := List.getElem?_eq_getElem hj
              rw [eo] at ex
              cases ex
              generalize (lotOf (mk &&& maskOf l))[j] = o at eo
              have ho : o ∈ l := by
                have z := List.mem_of_getElem? eo
                rw [mem_lotOf, Nat.testBit_and, Bool.and_eq_true, bit_maskOf, decide_eq_true_eq] at z
                exact z.2
              have eD6 := s6 _ _ eD
              have g1 : DGet H6 D (.int (c : Int)) (some (nV i)) := by
                have z := DGet.k (k := Sum.inl (c : Int)) eD6
                rw [hk2 i c hi em] at z
                exact z
              have er : (dayRow l i mk)[j]? = some (i, l.idxOf o) := by
                unfold dayRow
                rw [List.getElem?_map, eo]
                rfl
              refine ⟨rfl, _, rfl, _, rfl, D, nV i, rfl, g1, _, rfl, _, rfl, D, nV (l.idxOf o), rfl, ?_, by show 2 ≤ sizeLine; decide, fun T nT => ?_⟩
              · have z := DGet.k (k := Sum.inl (o : Int)) eD6
                rw [hk2 _ o (idx_lt ho) (idx_get ho)] at z
                exact z
              · have s7 : Same H6 (upd H6 T (.tup [nV i, nV (l.idxOf o)])) := same_upd nT
                have pr7 := pr6.same s7
                obtain ⟨acc, a1, a2, a3⟩ := pr7.snoc (T := T) (i := i) (j := l.idxOf o) (by
                  have y1 := day_len (f := fs) asc i
                  have y2 := row_len asc i mk
                  have y3 : i * l.length ≤ 1000 * 1000 := Nat.mul_le_mul (by omega) hll
                  rw [List.length_append, List.length_take]
                  omega) upd_same
                refine ⟨acc, a1, a2, same_put (s6.trans s7) nD2, ?_, ?_⟩
                · exact seqT_putL a1 (same_seqT s7 hT2)
                · rw [List.take_add_one, er, ← List.append_assoc]
                  exact a3
            · rintro H6 ⟨s6, _, pr6⟩
              refine ⟨s6, ?_⟩
              rw [hrow]
              rw [List.length_map, hrl, List.take_length] at pr6
              exact pr6
          · refine Nat.lt_of_le_of_lt Nat.and_le_left (Nat.lt_of_lt_of_le (far_small hk.fars ft.few ft.inn ef) (Nat.pow_le_pow_right (by decide) (by omega)))
        · rintro H3 ⟨s3, pr⟩
          rw [List.length_map] at pr
          dsimp only [gName]
          refine st_eq (σ' := [some (.ref p), some (.ref t1), some (nV (maskOf l)), some (.ref D), none, none, some (.ref D2), none]) rfl ?_
          have s03 := s2.trans s3
          have hS3 := same_seqT s03 hS
          refine ⟨_, rfl, t1, rfl, ⟨_, hS3⟩, fun D3 nD3 => ?_⟩
          refine lc_tup (K := K) (a := t1) (xs := l.map nV) (fun i H4 => Same H3 H4 ∧ H4 D3 = some (.lst (((l.take i).map fun c => bl.getD c 0).map nV))) ⟨same_upd nD3, upd_same⟩ (fun i H4 _ z => same_seqT z.1 hS3) ?_ ?_
          · rintro i x H4 ex ⟨s4, eD3⟩
            rw [List.getElem?_map] at ex
            cases em : l[i]? with
            | none => rw [em] at ex; cases ex
            | some c =>
              rw [em] at ex
              cases ex
              have hc := hin c (List.mem_of_getElem? em)
              have eb : bl[c]? = some bl[c] := List.getElem?_eq_getElem hc
              generalize bl[c] = x1 at eb
              have s04 := s03.trans s4
              have il := at_lt em
              refine ⟨rfl, _, rfl, p, C, dx, _, .ref b, rfl, s04 _ _ h1, m.T.cl, m.T.nb, lk_blocks b a t, _, rfl, b, _, _, nV x1, rfl, rfl, same_seqT s04 hb, at_of (j := c) rfl (map_get eb), _, eD3, ?_, same_put s4 nD3, ?_⟩
              · rw [List.length_map, List.length_map, List.length_take, sizeLine_eq]
                omega
              · rw [upd_same, take_one em, List.map_append, List.map_append, List.map_cons, getD_some eb]
                rfl
          · rintro H4 ⟨s4, eD3⟩
            rw [List.length_map, List.take_length] at eD3
            refine .inl ⟨D3, _, rfl, .inl (.inl eD3), fun t3 nt3 => ?_⟩
            have s5 : Same H4 (upd H4 t3 (.tup ((l.map fun c => bl.getD c 0).map nV))) := same_upd nt3
            have et3 : upd H4 t3 (.tup ((l.map fun c => bl.getD c 0).map nV)) t3 = some (.tup ((l.map fun c => bl.getD c 0).map nV)) := upd_same
            generalize upd H4 t3 (.tup ((l.map fun c => bl.getD c 0).map nV)) = H5 at s5 et3 ⊢
            have s35 := s4.trans s5
            refine ⟨_, rfl, ?_⟩
            obtain ⟨rs, r1, _⟩ := (pr.same s35).tup (K := K) (t := t3)
            refine .inl ⟨D2, _, rfl, .inl (.inl r1), fun t4 nt4 => ?_⟩
            obtain ⟨rs', r1', r2⟩ := (pr.same s35).tup (K := K) (t := t4)
            have ers : rs.map V.ref = rs'.map V.ref := by
              have z := r1.symm.trans r1'
              injection z with z
              injection z
            rw [ers]
            have s6 : Same H5 (upd H5 t4 (.tup (rs'.map V.ref))) := same_upd nt4
            have PA := r2 _ s6 upd_same
            have sAll := (s03.trans s35).trans s6
            have ln : (l.map fun c => bl.getD c 0).length = l.length := List.length_map ..
            have dl : (dayNs l fs l.length).length ≤ 1000000 := by
              have y1 := day_len (f := fs) asc l.length
              have y3 : l.length * l.length ≤ 1000 * 1000 := Nat.mul_le_mul hll hll
              omega
            refine ⟨t3, t4, _, dayNs l fs l.length, rfl, same_seqT s6 (.inl (.inl et3)), PA, day_nodup l fs _, fun z hz => ?_, by rw [ln]; omega, dl, fun c hc fc => ?_, fun q5 f5 H7 s7 n7 hk7 => ?_⟩
            · rw [mem_day] at hz
              obtain ⟨z1, o, _, z3, z4⟩ := hz
              rw [ln]
              exact ⟨z1, by rw [z4]; exact idx_lt z3⟩
            · obtain ⟨c1, o1, f1, f2, f3⟩ := far_day hk.fars hin fc
              rw [f1] at f2
              cases f2
              exact hk.fars.no c1 (hin c1 (List.mem_of_getElem? f1)) f3
            · exact q3 l rfl asc hin q5 H7 f5 (sAll.trans s7) (sAll.free n7) hk7
end
end Rip

/-! The law's is_int, deep. -/
namespace Rip
open PySem PySem.Spec PyProof.Rows L2
def inR (a b : Int) : V → Bool
  | .int i => decide (a ≤ i) && decide (i ≤ b)
  | _ => false
theorem inR_below (n : Nat) (v : V) : inR 0 ((n : Int) - 1) v = isBelow n v := by
  cases v with
  | int i =>
    show (decide ((0 : Int) ≤ i) && decide (i ≤ (n : Int) - 1)) = decide ((0 : Int) ≤ i ∧ i < (n : Int))
    rw [Bool.decide_and]
    congr 1
    exact decide_eq_decide.mpr ⟨fun h => by omega, fun h => by omega⟩
  | _ => rfl
section
variable {P : Program} {w : World} {K : PySem.W.Frag} {mg : Str → Option Value} {base : Heap}
abbrev s_isint : Stmt := top 34
abbrev s_deep : Stmt := top 35
def spIsInt (K : PySem.W.Frag) : Sp := fun vs H Q _ => ∃ (v : V) (a b : Int), vs = [v, .int a, .int b] ∧ Ob K H v ∧ Q (.bl (inR a b v)) H
abbrev scIiN : List Str := ["_law_thing", "_law_least", "_law_most"]
theorem scIi : FnScope scIiN ["_law_thing", "_law_least", "_law_most"] (defScope s_isint) := ⟨rfl, rfl, rfl, by decide +kernel, rfl, by decide +kernel, by decide +kernel⟩
theorem ok_isint {f : Addr} {fd : FuncData} (F : Fun K "_law_is_int" "_law_is_int" s_isint f fd) (B : Blt mg) : FnOk P w K mg base CX0 1 f fd ["_law_thing", "_law_least", "_law_most"] (spIsInt K) := by
  refine F.ok scIi (fun vs H Q E h => ?_) (fun cdv A outer s H vs Q E hr h => ?_)
  · obtain ⟨v, a, b, rfl, _⟩ := h
    rfl
  · obtain ⟨v, a, b, rfl, ⟨t, ty, k1, k2⟩, q⟩ := h
    refine ⟨_, pss_one (ps_ret (pe_and (pe_callB call_isi (by rfl) B.isinstance PyProof.Rows.boot_isinstance (pa_cons (pv 0) (pa_cons (pe_bltn (v := .ty "int") (by rfl) B.int PyProof.Rows.boot_int rfl) pa_nil)))
      (pe_and (pe_not (pe_callB call_isi (by rfl) B.isinstance PyProof.Rows.boot_isinstance (pa_cons (pv 0) (pa_cons (pe_bltn (v := .ty "bool") (by rfl) B.bool PyProof.Rows.boot_bool rfl) pa_nil))))
      (pe_one (pe_chain op_le op_le (pv 1) (pv 0) (pv 2)))))), ?_⟩
    refine ⟨_, rfl, v, _, t, _, isIB v, rfl, .ty "int", ty, k1, _, rfl, ?_⟩
    cases v with
    | int i =>
      refine iteT ⟨_, rfl, _, _, t, _, _, rfl, .ty "bool", ty, k2, _, rfl, _, rfl, iteT ⟨_, rfl, _, rfl, _, _, rfl, rfl, _, rfl, ?_⟩⟩
      have e : inR a b (.int i) = (decide (a ≤ i) && decide (i ≤ b)) := rfl
      rw [e] at q
      refine ite_ok (fun h => ?_) fun h => ?_
      · rw [decide_eq_true h, Bool.true_and] at q
        exact ⟨_, rfl, _, _, rfl, rfl, q⟩
      · rw [decide_eq_false h, Bool.false_and] at q
        exact q
    | bl x => exact iteT ⟨_, rfl, _, _, t, _, _, rfl, .ty "bool", ty, k2, _, rfl, _, rfl, iteF q⟩
    | non => exact iteF q
    | str x => exact iteF q
    | byt x => exact iteF q
    | flt x => exact iteF q
    | ref x => exact iteF q
    | ty x => exact iteF q
def spDeep : Sp := fun vs H Q _ => vs = [] ∧ ∀ (l : Addr) (xs : List V) (H' : Hp), Same H H' → H l = none → H' l = some (.lst xs) → Q (.ref l) H'
abbrev scDpN : List Str := ["_law_thing", "_law_turn"]
theorem scDp : FnScope scDpN [] (defScope s_deep) := ⟨rfl, rfl, rfl, by decide +kernel, rfl, by decide +kernel, by decide +kernel⟩
theorem ok_deep {f : Addr} {fd : FuncData} (F : Fun K "_law_deep" "_law_deep" s_deep f fd) (B : Blt mg) : FnOk P w K mg base CX0 1 f fd [] spDeep := by
  refine F.ok scDp (fun vs H Q E h => ?_) (fun cdv A outer s H vs Q E hr h => ?_)
  · obtain ⟨rfl, _⟩ := h
    rfl
  · obtain ⟨rfl, q⟩ := h
    refine ⟨_,
      (pss_cons (ps_set (i := 0) scDp.nd rfl (.inl rfl) (pe_tup pa_nil))
      (pss_cons (ps_for PassesOwn.never rfl (pi_range1 rfl B.range (pa_cons pe_int pa_nil)) (pg_name (i := 1) scDp.nd rfl (.inl rfl))
        (pss_one (ps_set (i := 0) scDp.nd rfl (.inl rfl) (pe_lst (pa_cons (pe_tup (pa_cons (pv 0) pa_nil)) pa_nil)))))
      (pss_one (ps_ret (pv 0))))), ?_⟩
    refine ⟨Nat.zero_le _, fun t nt => ?_⟩
    have one : 1 ≤ sizeLine := by rw [sizeLine_eq]; decide
    refine ⟨11, rfl, by decide, by decide, for_range (n := 11) (fun i σ H2 => ∃ (v : V) (z : Option V), σ = [some v, z] ∧ Same H H2 ∧ (i = 0 ∨ ∃ (l : Addr) (xs : List V), v = .ref l ∧ H l = none ∧ H2 l = some (.lst xs)))
      ⟨.ref t, none, rfl, same_upd nt, .inl rfl⟩ ?_ ?_⟩
    · rintro i σ H2 hi ⟨v, z, rfl, s2, tv⟩
      refine ⟨_, rfl, one, fun p np => ⟨one, fun l nl => ?_⟩⟩
      have np0 : H p = none := s2.free np
      have nl0 : H l = none := (same_put s2 np0).free nl
      exact ⟨_, _, rfl, s2.trans ((same_upd np).trans (same_upd nl)), .inr ⟨l, _, rfl, nl0, upd_same⟩⟩
    · rintro σ H2 ⟨v, z, rfl, s2, tv⟩
      rcases tv with h | ⟨l, xs, rfl, nl, el⟩
      · exact absurd h (by decide)
      · exact ⟨_, rfl, q l xs H2 s2 nl el⟩
end
end Rip

/-! The law's needs, parts. -/
namespace Rip
open PySem PySem.Spec PyProof.Rows L2
/-! ### pairs sorted -/
def pr (H : Hp) (r : Addr) : Nat × Nat := match H r with
  | some (.tup [.int i, .int j]) => (i.toNat, j.toNat)
  | _ => (0, 0)
def backR : V → Addr
  | .ref a => a
  | _ => 0
theorem pr_at {H : Hp} {r : Addr} {p : Nat × Nat} (h : H r = some (.tup [nV p.1, nV p.2])) : pr H r = p := by
  unfold pr
  rw [h]
  obtain ⟨i, j⟩ := p
  rfl
theorem PrL.map {H : Hp} {rs : List Addr} {ns : List (Nat × Nat)} (h2 : rs.length = ns.length) (h3 : ∀ (i : Nat) (r : Addr) (p : Nat × Nat), rs[i]? = some r → ns[i]? = some p → H r = some (.tup [nV p.1, nV p.2])) : ns = rs.map (pr H) := by
  refine List.ext_getElem (by rw [List.length_map, h2]) fun i h4 h5 => ?_
  rw [List.getElem_map]
  have h6 : i < rs.length := by omega
  exact (pr_at (h3 i rs[i] ns[i] (List.getElem?_eq_getElem h6) (List.getElem?_eq_getElem h4))).symm
/-- a list of pairs, sorted and made a tuple -/
theorem sorted_pairs {K : PySem.W.Frag} {H : Hp} {D : Addr} {ns : List (Nat × Nat)} {Q : VK} (h : PrL H D ns) (hn : ns.Nodup)
    (q : ∀ (p : Addr) (ys : List V), H p = none → (∀ (t : Addr) (H' : Hp), Same (upd H p (.lst ys)) H' → H' t = some (.tup ys) → ∃ ms : List (Nat × Nat), ms.Perm ns ∧ ms.Pairwise ltP ∧ PairsAt K H' t ms) → Q (.ref p) (upd H p (.lst ys))) : rSortedPO K [.ref D] H Q := by
  obtain ⟨rs, h1, h2, h3⟩ := h
  have em := PrL.map h2 h3
  refine ⟨D, rs.map V.ref, fun v => (((pr H (backR v)).1 : Int), ((pr H (backR v)).2 : Int)), rfl, .inl (.inl h1), fun x hx => ?_, fun ys p st sb np => q p ys np fun t H' s et => ?_⟩
  · obtain ⟨r, hr, rfl⟩ := List.mem_map.mp hx
    obtain ⟨i, hi, rfl⟩ := List.getElem_of_mem hr
    have hi2 : i < ns.length := by omega
    have z := h3 i rs[i] ns[i] (List.getElem?_eq_getElem hi) (List.getElem?_eq_getElem hi2)
    refine ⟨rs[i], rfl, ?_⟩
    show H rs[i] = some (.tup [.int ((pr H rs[i]).1 : Int), .int ((pr H rs[i]).2 : Int)])
    rw [pr_at z]
    exact z
  · have hm := sb.perm
    have href : ∀ y ∈ ys, y = V.ref (backR y) := fun y hy => by
      obtain ⟨r, _, rfl⟩ := List.mem_map.mp (hm.mem_iff.mp hy)
      rfl
    have ey : (ys.map backR).map V.ref = ys := by
      rw [List.map_map]
      exact (List.map_congr_left fun y hy => (href y hy).symm).trans (List.map_id ys)
    have pm : (ys.map backR).Perm rs := by
      have z := hm.map backR
      rw [List.map_map] at z
      have e : rs.map (backR ∘ V.ref) = rs := List.map_id rs
      rw [e] at z
      exact z
    have pn : ((ys.map backR).map (pr H)).Perm ns := by
      rw [em]
      exact pm.map _
    refine ⟨(ys.map backR).map (pr H), pn, ?_, ys.map backR, .inl (.inl (by rw [ey]; exact et)), (List.length_map _).symm, fun i r p x y => ?_⟩
    · have nd := pn.nodup_iff.mpr hn
      rw [List.map_map]
      rw [List.map_map] at nd
      refine List.pairwise_map.mpr ?_
      have nd' := List.pairwise_map.mp nd
      refine (List.pairwise_iff_forall_sublist.mpr ?_)
      intro a b sub
      have z1 := (List.pairwise_iff_forall_sublist.mp st) sub
      have z2 := (List.pairwise_iff_forall_sublist.mp nd') sub
      have z3 : ¬ (((pr H (backR b)).1 : Int) < ((pr H (backR a)).1 : Int) ∨ (((pr H (backR b)).1 : Int) = ((pr H (backR a)).1 : Int) ∧ ((pr H (backR b)).2 : Int) < ((pr H (backR a)).2 : Int))) := SrtO.lexB_no.mp z1
      show ltP (pr H (backR a)) (pr H (backR b))
      simp only [Function.comp] at z2
      have z4 : ¬ ((pr H (backR a)).1 = (pr H (backR b)).1 ∧ (pr H (backR a)).2 = (pr H (backR b)).2) := fun ⟨u, v⟩ => z2 (Prod.ext u v)
      unfold ltP
      omega
    · rw [List.getElem?_map, x] at y
      have y' : pr H r = p := Option.some.inj y
      subst y'
      have hr : r ∈ rs := pm.mem_iff.mp (List.mem_of_getElem? x)
      obtain ⟨j, hj, rfl⟩ := List.getElem_of_mem hr
      have hj2 : j < ns.length := by omega
      have z := h3 j rs[j] ns[j] (List.getElem?_eq_getElem hj) (List.getElem?_eq_getElem hj2)
      rw [← pr_at z] at z
      exact .inl (.inl (s _ _ (same_upd np _ _ z)))
/-! ### needs along an order make no ring -/
def Along (o : List Nat) (k : Nat) (z : Nat × Nat) : Prop := ∃ a b, b < a ∧ a < k ∧ o[a]? = some z.1 ∧ o[b]? = some z.2
theorem along_far {o : List Nat} {k : Nat} {ns : List (Nat × Nat)} (ho : o.Nodup) (h : ∀ z ∈ ns, Along o k z) {x y : Nat} (f : Far ns x y) : ∃ a b : Nat, b < a ∧ o[a]? = some x ∧ o[b]? = some y := by
  induction f with
  | one e =>
    obtain ⟨a, b, h1, _, h2, h3⟩ := h _ e
    exact ⟨a, b, h1, h2, h3⟩
  | step e _ ih =>
    obtain ⟨a, b, h1, _, h2, h3⟩ := h _ e
    obtain ⟨c, d, g1, g2, g3⟩ := ih
    have : b = c := by
      obtain ⟨l1, e1⟩ := List.getElem?_eq_some_iff.mp h3
      obtain ⟨l2, e2⟩ := List.getElem?_eq_some_iff.mp g2
      exact (List.getElem_inj ho).mp (e1.trans e2.symm)
    exact ⟨a, d, by omega, h2, g3⟩
theorem along_no {o : List Nat} {k : Nat} {ns : List (Nat × Nat)} (ho : o.Nodup) (h : ∀ z ∈ ns, Along o k z) (c : Nat) : ¬ Far ns c c := fun f => by
  obtain ⟨a, b, h1, h2, h3⟩ := along_far ho h f
  obtain ⟨l1, e1⟩ := List.getElem?_eq_some_iff.mp h2
  obtain ⟨l2, e2⟩ := List.getElem?_eq_some_iff.mp h3
  have : a = b := (List.getElem_inj ho).mp (e1.trans e2.symm)
  omega
theorem BagAt.put {H : Hp} {b g p : Addr} {o : HO} (h : BagAt H b g) (n1 : p ≠ b) (n2 : p ≠ g) : BagAt (upd H p o) b g := by
  obtain ⟨s, c, al, hb, ha⟩ := h.ob
  obtain ⟨gs, hg⟩ := h.gr
  exact ⟨⟨s, c, al, by rw [upd_ne n1.symm]; exact hb, ha⟩, gs, by rw [upd_ne n2.symm]; exact hg⟩
theorem BagAt.nb {H : Hp} {b g p : Addr} (h : BagAt H b g) (n : H p = none) : p ≠ b ∧ p ≠ g := by
  obtain ⟨s, c, al, hb, ha⟩ := h.ob
  obtain ⟨gs, hg⟩ := h.gr
  exact ⟨(ne_of_none hb n).symm, (ne_of_none hg n).symm⟩
theorem SameB.put {H H' : Hp} {b g p : Addr} {o : HO} (s : SameB b g H H') (n : H p = none) : SameB b g H (upd H' p o) := fun c u e h1 h2 => by
  rw [upd_ne (ne_of_none e n)]
  exact s c u e h1 h2
theorem SameB.free {H H' : Hp} {b g p : Addr} (B : BagAt H b g) (s : SameB b g H H') (n : H' p = none) (h : p ≠ b) (h' : p ≠ g) : H p = none := by
  cases e : H p with
  | none => rfl
  | some o => rw [s p o e h h'] at n; cases n
theorem PrL.sameB {H H' : Hp} {b g D : Addr} {ns : List (Nat × Nat)} (h : PrL H D ns) (B : BagAt H b g) (n1 : D ≠ b) (n2 : D ≠ g) (s : SameB b g H H') : PrL H' D ns := by
  obtain ⟨s1, c, al, hb, ha⟩ := B.ob
  obtain ⟨gs, hg⟩ := B.gr
  exact h.keep (fun xs e => s _ _ e n1 n2) fun r xs e => s _ _ e (ne_of e hb (by intro z; cases z)) (ne_of e hg (by intro z; cases z))
theorem rgV_nat (m : Nat) : rgV 0 (m : Int) = (List.range m).map nV := by
  unfold rgV
  rw [show ((m : Int) - 0).toNat = m by omega]
  exact List.map_congr_left fun i _ => congrArg V.int (by omega)
theorem erase_perm : ∀ {l : List Nat} {i c : Nat}, l[i]? = some c → (c :: l.eraseIdx i).Perm l
  | [], _, _, h => by simp at h
  | a :: l, 0, c, h => by
    have e : a = c := by simpa using h
    subst e
    exact List.Perm.refl _
  | a :: l, i + 1, c, h => by
    have ih := erase_perm (l := l) (i := i) (c := c) (by simpa using h)
    exact (List.Perm.swap a c _).trans (ih.cons a)
theorem seq_nat {v : Int} {n : Nat} (h0 : 0 ≤ v) (h1 : v < n) : seqIndex? v n = some v.toNat := by
  unfold seqIndex?
  have h : ¬ v < 0 := by omega
  simp only [if_neg h]
  rw [if_pos (by simp [h0, h1])]
theorem erase_mapN : ∀ (l : List Nat) (j : Nat), (l.map nV).eraseIdx j = (l.eraseIdx j).map nV
  | [], j => by simp
  | a :: r, 0 => by simp
  | a :: r, j + 1 => by
    have ih := erase_mapN r j
    simp [ih]
section
variable {P : Program} {w : World} {K : PySem.W.Frag} {mg : Str → Option Value} {base : Heap}
abbrev s_needs : Stmt := top 36
abbrev s_parts : Stmt := top 37
def spNeeds (K : PySem.W.Frag) : Sp := fun vs H Q _ => ∃ (b g : Addr) (m r : Nat), vs = [.ref b, nV m, nV r] ∧ BagAt H b g ∧ m ≤ 60 ∧ 0 < r ∧ r < 1000 ∧
  ∀ (a : Addr) (ns : List (Nat × Nat)) (H' : Hp), BagAt H' b g → SameB b g H H' → H a = none → PairsAt K H' a ns → ns.Pairwise ltP → (∀ z ∈ ns, z.1 < m ∧ z.2 < m ∧ z.1 ≠ z.2) → ns.length ≤ 4000 → (∀ c, ¬ Far ns c c) → Q (.ref a) H'
abbrev scNsN : List Str := ["_law_bag_here", "_law_many", "_law_rare", "_law_order", "_law_left", "_law_turn", "_law_made", "_law_at", "_law_other"]
theorem scNs : FnScope scNsN ["_law_bag_here", "_law_many", "_law_rare"] (defScope s_needs) := ⟨rfl, rfl, rfl, by decide +kernel, rfl, by decide +kernel, by decide +kernel⟩
theorem ok_needs {f fP : Addr} {fd fdP : FuncData} (F : Fun K "_law_needs" "_law_needs" s_needs f fd) (B : Blt mg) (hsr : mg "sorted" = none) (FP : Fun K "_law_pick" "_law_pick" sPick fP fdP) (bP : Binds K fdP ["_law_bag_here", "_law_many"] []) (gP : mg "_law_pick" = some (.ref fP)) :
    FnOk P w K mg base CX0 2 f fd ["_law_bag_here", "_law_many", "_law_rare"] (spNeeds K) := by
  have GP : FnOk P w K mg base CX0 1 fP fdP ["_law_bag_here", "_law_many"] spPick := ok_pick FP B
  refine F.ok scNs (fun vs H Q E h => ?_) (fun cdv A outer s H vs Q E hr h => ?_)
  · obtain ⟨b, g, m, r, rfl, _⟩ := h
    rfl
  · obtain ⟨b, g, m, r, rfl, BA, hm, hr0, hr1, q⟩ := h
    refine ⟨_,
      (pss_cons (ps_asg (pe_tup (pa_cons (pe_lst pa_nil) (pa_cons (pe_listRg rfl (by rfl) B.list (prg_1 (by rfl) B.range (pv 1))) pa_nil))) (pg_tup rfl (pgs_cons (pg_name (i := 3) scNs.nd rfl (.inr rfl)) (pgs_cons (pg_name (i := 4) scNs.nd rfl (.inl rfl)) pgs_nil))))
      (pss_cons (ps_for PassesOwn.never rfl (pi_range1 rfl B.range (pa_cons (pv 1) pa_nil)) (pg_name (i := 5) scNs.nd rfl (.inl rfl))
        (pss_one (ps_expr (pe_bm PySem.F.plainAttrs_list PySem.F.slot_list_append PySem.F.type_list_append mt_append (pv 3) (pa_cons (pe_bm PySem.F.plainAttrs_list PySem.F.slot_list_pop PySem.F.type_list_pop mt_popAt (pv 4) (pa_cons (pe_call GP hr (by rfl) gP FP.kp bP .nil pass0 (pa_cons (pv 0) (pa_cons (pe_callB call_len_seq (by rfl) B.len PySem.boot_len (pa_cons (pv 4) pa_nil)) pa_nil))) pa_nil)) pa_nil)))))
      (pss_cons (ps_set (i := 6) scNs.nd rfl (.inl rfl) (pe_lst pa_nil))
      (pss_cons (ps_for PassesOwn.never rfl (pi_range1 rfl B.range (pa_cons (pv 1) pa_nil)) (pg_name (i := 7) scNs.nd rfl (.inr rfl))
        (pss_one (ps_expr (pe_bm PySem.F.plainAttrs_list PySem.F.slot_list_extend PySem.F.type_list_extend mt_extend (pv 6) (pa_cons (pe_lc (own := [("_law_other", 8)]) (g := (gName 8)) (tt := tTest (tOp rEq (tCall spPick [] E0 (tCons (tVar 0) (tCons (tVar 2) tNil))) (tC (.int 0)))) (te := tTup (tCons (tOp (rIxL K) (tVar 3) (tVar 7)) (tCons (tVar 8) tNil))) rfl scNs.nd (pi_list (pe_slice sl_list (pv 3) po_none (po_some (pv 7)))) (blkOk_by (own := [("_law_other", 8)]) (N := scNsN) (sc := defScope s_needs) (by decide +kernel)) (fun _ _ _ _ _ => (pg_name (i := 8) scNs.nd rfl (.inl rfl))) (fun _ _ _ _ _ => (pts_one (pt_cmpR op_eq (pe_call GP hr (by rfl) gP FP.kp bP .nil pass0 (pa_cons (pv 0) (pa_cons (pv 2) pa_nil))) pe_int (nomark _)))) (fun _ _ _ _ _ => (pe_tup (pa_cons (pe_ix ix_list (pv 3) (pv 7) (fun _ _ => rfl)) (pa_cons (pv 8) pa_nil))))) pa_nil)))))
      (pss_one (ps_ret (pe_tupleOf (by rfl) B.tuple (pe_callB cr_sortedPO (by rfl) hsr PyProof.Rows.boot_sorted (pa_cons (pv 6) pa_nil))))))))), ?_⟩
    have two : 2 ≤ sizeLine := by rw [sizeLine_eq]; decide
    refine ⟨Nat.zero_le _, fun lo nlo => ⟨_, rfl, (m : Int), rfl, RgOk.of_le (by omega) (by omega) (by omega) (by omega), fun le nle => ⟨two, fun tp ntp => ?_⟩⟩⟩
    refine ⟨tp, _, rfl, .inl (.inl upd_same), rfl, _, _, rfl, _, [], rfl, rfl, ?_⟩
    rw [rgV_nat] at ntp ⊢
    have l12 : lo ≠ le := ne_of_none upd_same nle
    have hb0 := BA.nb nlo
    have nle0 : H le = none := (same_upd nlo).free nle
    have hb1 := BA.nb nle0
    have s1 : Same H (upd (upd H lo (.lst [])) le (.lst ((List.range m).map nV))) := (same_upd nlo).trans (same_upd nle)
    have ntp0 : H tp = none := s1.free ntp
    have t1 : lo ≠ tp := ne_of_none (by rw [upd_ne l12, upd_same]) ntp
    have t2 : le ≠ tp := ne_of_none upd_same ntp
    have s2 := s1.trans (same_upd (o := .tup [.ref lo, .ref le]) ntp)
    have e1 : upd (upd (upd H lo (.lst [])) le (.lst ((List.range m).map nV))) tp (.tup [.ref lo, .ref le]) lo = some (.lst []) := by rw [upd_ne t1, upd_ne l12, upd_same]
    have e2 : upd (upd (upd H lo (.lst [])) le (.lst ((List.range m).map nV))) tp (.tup [.ref lo, .ref le]) le = some (.lst ((List.range m).map nV)) := by rw [upd_ne t2, upd_same]
    generalize upd (upd (upd H lo (.lst [])) le (.lst ((List.range m).map nV))) tp (.tup [.ref lo, .ref le]) = H1 at s2 e1 e2 ⊢
    refine st_eq (σ' := [some (.ref b), some (nV m), some (nV r), some (.ref lo), some (.ref le), none, none, none, none]) rfl ?_
    -- the order
    refine ⟨_, rfl, (m : Int), rfl, by omega, by omega, for_range (n := m) (fun i σ H2 => ∃ (od lf : List Nat) (z : Option V), σ = [some (.ref b), some (nV m), some (nV r), some (.ref lo), some (.ref le), z, none, none, none] ∧ BagAt H2 b g ∧ SameB b g H H2 ∧
        H2 lo = some (.lst (od.map nV)) ∧ H2 le = some (.lst (lf.map nV)) ∧ od.length = i ∧ (od ++ lf).Perm (List.range m))
      ⟨[], List.range m, none, rfl, BA.same s2, SameB.of s2, e1, e2, rfl, List.Perm.refl _⟩ ?_ ?_⟩
    · rintro i σ H2 hi ⟨od, lf, z, rfl, BA2, s3, eo, el, hl, hp⟩
      have hln : od.length + lf.length = m := by
        have := hp.length_eq
        rw [List.length_append, List.length_range] at this
        exact this
      refine ⟨_, rfl, .inl ⟨rfl, _, .inl (.inl eo)⟩, _, rfl, .inl ⟨rfl, _, .inl (.inl el)⟩, _, rfl, _, rfl, le, _, rfl, .inl (.inl (.inl el)), b, g, _, rfl, BA2, by rw [List.length_map]; omega, by rw [List.length_map]; omega, fun v H3 v0 v1 BA3 sb => ?_⟩
      rw [List.length_map] at v1
      have hv : v.toNat < lf.length := by omega
      have ev : lf[v.toNat]? = some lf[v.toNat] := List.getElem?_eq_getElem hv
      generalize lf[v.toNat] = c at ev
      have el3 := sb _ _ el hb1.1 hb1.2
      have eo3 := sb _ _ eo hb0.1 hb0.2
      refine ⟨le, _, v, v.toNat, nV c, rfl, rfl, el3, by omega, by omega, ?_, map_get ev, lo, _, _, rfl, rfl, by rw [upd_ne l12]; exact eo3, by rw [List.length_map, sizeLine_eq]; omega, od ++ [c], lf.eraseIdx v.toNat, _, rfl, ?_, ?_, ?_, ?_, ?_, ?_⟩
      · rw [List.length_map]
        exact seq_nat v0 v1
      · exact (BA3.put hb1.1 hb1.2).put hb0.1 hb0.2
      · exact ((s3.trans sb).put nle0).put nlo
      · rw [upd_same, List.map_append]
        rfl
      · rw [upd_ne l12.symm, upd_same, erase_mapN]
      · rw [List.length_append, hl]
        rfl
      · have z := erase_perm ev
        refine List.Perm.trans ?_ hp
        rw [List.append_assoc]
        exact z.append_left od
    · rintro σ H2 ⟨od, lf, z, rfl, BA2, s3, eo, el, hl, hp⟩
      have hln : lf = [] := by
        have := hp.length_eq
        rw [List.length_append, List.length_range] at this
        exact List.length_eq_zero_iff.mp (by omega)
      subst hln
      rw [List.append_nil] at hp
      have ond : od.Nodup := hp.nodup_iff.mpr List.nodup_range
      have oin : ∀ c ∈ od, c < m := fun c hc => List.mem_range.mp (hp.mem_iff.mp hc)
      refine ⟨Nat.zero_le _, fun mo nmo => ?_⟩
      have hbm := BA2.nb nmo
      have nmo0 : H mo = none := SameB.free BA s3 nmo hbm.1 hbm.2
      have l13 : lo ≠ mo := ne_of_none eo nmo
      dsimp only [gName]
      refine st_eq (σ' := [some (.ref b), some (nV m), some (nV r), some (.ref lo), some (.ref le), z, some (.ref mo), none, none]) rfl ?_
      refine ⟨_, rfl, (m : Int), rfl, by omega, by omega, for_range (n := m) (fun i σ H3 => ∃ (ms : List (Nat × Nat)) (z7 : Option V), σ = [some (.ref b), some (nV m), some (nV r), some (.ref lo), some (.ref le), z, some (.ref mo), z7, none] ∧ BagAt H3 b g ∧ SameB b g H H3 ∧
          H3 lo = some (.lst (od.map nV)) ∧ PrL H3 mo ms ∧ ms.Nodup ∧ (∀ y ∈ ms, Along od i y) ∧ ms.length ≤ i * m)
        ⟨[], none, rfl, BA2.put hbm.1 hbm.2, s3.put nmo0, by rw [upd_ne l13]; exact eo, PrL.nil upd_same, .nil, fun y h => (by cases h), Nat.zero_le _⟩ ?_ ?_⟩
      · rintro i σ H3 hi ⟨ms, z7, rfl, BA3, s4, eo3, pm, nd, al, ml⟩
        have eoi : od[i]? = some od[i] := List.getElem?_eq_getElem (by omega)
        generalize od[i] = ci at eoi
        have z0 : V.int (0 + (i : Int)) = nV i := congrArg V.int (by omega)
        rw [z0]
        refine ⟨_, rfl, .inl ⟨rfl, ?_⟩, ?_⟩
        · obtain ⟨rs, h1, _⟩ := pm
          exact ⟨_, .inl (.inl h1)⟩
        refine ⟨_, rfl, _, rfl, (i : Int), rfl, lo, _, rfl, .inl (.inl eo3), fun sc nsc => ?_⟩
        have ec : cutV (od.map nV) none (some ((i : Int))) = (od.take i).map nV := by rw [cut_lo _ (by rw [List.length_map]; omega), List.map_take]
        rw [ec]
        have hbs := BA3.nb nsc
        have s5 : Same H3 (upd H3 sc (.lst ((od.take i).map nV))) := same_upd nsc
        have esc : upd H3 sc (.lst ((od.take i).map nV)) sc = some (.lst ((od.take i).map nV)) := upd_same
        have BA4 := BA3.same s5
        have pm4 := pm.same s5
        generalize upd H3 sc (.lst ((od.take i).map nV)) = H4 at s5 esc BA4 pm4 ⊢
        have eo4 := s5 _ _ eo3
        refine ⟨sc, rfl, ⟨_, .inl (.inl esc)⟩, fun D nD => ?_⟩
        have hbd := BA4.nb nD
        refine lc_list (K := K) (a := sc) (xs := (od.take i).map nV) (fun j H5 => BagAt H5 b g ∧ SameB b g H4 H5 ∧ ∃ ts : List (Nat × Nat), PrL H5 D ts ∧ ts.Nodup ∧ ts.length ≤ j ∧ ∀ y ∈ ts, od[i]? = some y.1 ∧ ∃ t, t < j ∧ od[t]? = some y.2)
          ⟨BA4.put hbd.1 hbd.2, (SameB.refl b g H4).put nD, [], PrL.nil upd_same, .nil, Nat.zero_le _, fun y h => (by cases h)⟩ (fun j H5 _ y => .inl (.inl (y.2.1 _ _ esc hbs.1 hbs.2))) ?_ ?_
        · rintro j x H5 ex ⟨BA5, s6, ts, pt, ndt, tl, tal⟩
          rw [List.getElem?_map] at ex
          cases eoj : (od.take i)[j]? with
          | none => rw [eoj] at ex; cases ex
          | some o =>
            rw [eoj] at ex
            cases ex
            have hj : j < i := by
              have := at_lt eoj
              rw [List.length_take] at this
              omega
            have eoj' : od[j]? = some o := by
              rw [List.getElem?_take_of_lt hj] at eoj
              exact eoj
            refine ⟨rfl, _, rfl, _, rfl, b, g, (r : Int), rfl, BA5, by omega, by omega, fun v H6 v0 v1 BA6 sb => ?_⟩
            have s7 := s6.trans sb
            have pt6 := pt.sameB BA5 hbd.1 hbd.2 sb
            refine ⟨rfl, _, rfl, ite_ok (fun hv => ?_) fun hv => ?_⟩
            · have eo6 := s7 _ _ eo4 hb0.1 hb0.2
              refine ⟨_, rfl, _, rfl, lo, _, _, nV ci, rfl, rfl, .inl (.inl eo6), at_of (j := i) rfl (map_get eoi), _, rfl, two, fun T nT => ?_⟩
              have nbT := BA6.nb nT
              have pt7 := pt6.same (same_upd (o := .tup [nV ci, nV o]) nT)
              obtain ⟨acc, a1, a2, a3⟩ := pt7.snoc (T := T) (i := ci) (j := o) (by omega) upd_same
              refine ⟨acc, a1, a2, (BA6.put nbT.1 nbT.2).put hbd.1 hbd.2, (s7.trans (SameB.of (same_upd nT))).put nD, _, a3, ?_, by rw [List.length_append]; exact Nat.succ_le_succ tl, fun y hy => ?_⟩
              · refine List.nodup_append.mpr ⟨ndt, by simp, fun y hy y2 hy2 e => ?_⟩
                rw [List.mem_singleton] at hy2
                subst hy2
                subst e
                obtain ⟨_, t, ht, et⟩ := tal _ hy
                obtain ⟨l1, g1⟩ := List.getElem?_eq_some_iff.mp et
                obtain ⟨l2, g2⟩ := List.getElem?_eq_some_iff.mp eoj'
                have : t = j := (List.getElem_inj ond).mp (g1.trans g2.symm)
                omega
              · rcases List.mem_append.mp hy with hy | hy
                · obtain ⟨y1, t, ht, y2⟩ := tal y hy
                  exact ⟨y1, t, by omega, y2⟩
                · rw [List.mem_singleton] at hy
                  subst hy
                  exact ⟨eoi, j, by omega, eoj'⟩
            · exact ⟨BA6, s7, ts, pt6, ndt, by omega, fun y hy => by obtain ⟨y1, t, ht, y2⟩ := tal y hy; exact ⟨y1, t, by omega, y2⟩⟩
        · rintro H5 ⟨BA5, s6, ts, pt, ndt, tl, tal⟩
          have lt2 : (od.take i).length = i := by
            rw [List.length_take]
            omega
          rw [List.length_map, lt2] at tl tal
          have pm5 := pm4.sameB BA4 hbm.1 hbm.2 s6
          have ml' : i * m ≤ 60 * 60 := Nat.mul_le_mul (by omega) hm
          obtain ⟨xs, ys, c1, c2, c3, c4⟩ := pm5.cat pt (by omega)
          refine ⟨mo, D, xs, ys, rfl, rfl, c1, c2, c3, ms ++ ts, some (nV i), rfl, BA5.put hbm.1 hbm.2, ((s4.trans (SameB.of s5)).trans s6).put nmo0, ?_, c4, ?_, fun y hy => ?_, ?_⟩
          · rw [upd_ne l13]
            exact s6 _ _ eo4 hb0.1 hb0.2
          · refine List.nodup_append.mpr ⟨nd, ndt, fun y hy y2 hy2 e => ?_⟩
            subst e
            obtain ⟨a1, b1, q1, q2, q3, q4⟩ := al y hy
            obtain ⟨y1, _⟩ := tal y hy2
            obtain ⟨l1, g1⟩ := List.getElem?_eq_some_iff.mp q3
            obtain ⟨l2, g2⟩ := List.getElem?_eq_some_iff.mp y1
            have : a1 = i := (List.getElem_inj ond).mp (g1.trans g2.symm)
            omega
          · rcases List.mem_append.mp hy with hy | hy
            · obtain ⟨a1, b1, q1, q2, q3, q4⟩ := al y hy
              exact ⟨a1, b1, q1, by omega, q3, q4⟩
            · obtain ⟨y1, t, ht, y2⟩ := tal y hy
              exact ⟨i, t, ht, by omega, y1, y2⟩
          · rw [List.length_append, Nat.succ_mul]
            omega
      · rintro σ H3 ⟨ms, z7, rfl, BA3, s4, eo3, pm, nd, al, ml⟩
        have hmm : m * m ≤ 60 * 60 := Nat.mul_le_mul hm hm
        refine ⟨_, rfl, ?_⟩
        show rSortedPO K [V.ref mo] H3 fun x H1 => kTup K x H1 Q
        refine sorted_pairs (K := K) pm nd fun p ys np hq => .inl ⟨p, _, rfl, .inl (.inl upd_same), fun t nt => ?_⟩
        obtain ⟨fs, f1, f2, f3⟩ := hq t _ (same_upd nt) upd_same
        have s5 := (same_upd (o := .lst ys) np).trans (same_upd (o := .tup ys) nt)
        have nb1 := BA3.nb np
        have nt3 : H3 t = none := (same_upd np).free nt
        have nb2 := BA3.nb nt3
        have al' : ∀ y ∈ fs, Along od m y := fun y hy => al y (f1.mem_iff.mp hy)
        refine q t fs _ (BA3.same s5) (s4.trans (SameB.of s5)) (SameB.free BA s4 nt3 nb2.1 nb2.2) f3 f2 (fun y hy => ?_) (by rw [f1.length_eq]; omega) (along_no ond al')
        obtain ⟨a1, b1, q1, q2, q3, q4⟩ := al' y hy
        refine ⟨oin _ (List.mem_of_getElem? q3), oin _ (List.mem_of_getElem? q4), fun e => ?_⟩
        obtain ⟨l1, g1⟩ := List.getElem?_eq_some_iff.mp q3
        obtain ⟨l2, g2⟩ := List.getElem?_eq_some_iff.mp q4
        have : a1 = b1 := (List.getElem_inj ond).mp (g1.trans (e.trans g2.symm))
        omega
end
end Rip

/-! The law's parts. -/
namespace Rip
open PySem PySem.Spec PyProof.Rows L2
theorem ite_join {c : Prop} [Decidable c] {A : Prop} {C : L2.St → Hp → Prop} {σ : L2.St} {H : Hp} (Iv : L2.St → Hp → Prop) (hA : (∀ σ H, Iv σ H → C σ H) → c → A) (hB : ¬ c → Iv σ H) (hC : ∀ σ H, Iv σ H → C σ H) : if decide c = true then A else C σ H := by
  by_cases h : c
  · rw [if_pos (decide_eq_true h)]; exact hA hC h
  · rw [if_neg (by simpa using h)]; exact hC _ _ (hB h)
section
variable {P : Program} {w : World} {K : PySem.W.Frag} {mg : Str → Option Value} {base : Heap}
def spParts (K : PySem.W.Frag) : Sp := fun vs H Q _ => ∃ (b g : Addr) (m k : Nat), vs = [.ref b, nV m, nV k] ∧ BagAt H b g ∧ m ≤ 59 ∧ 0 < k ∧ k ≤ 6 ∧
  ∀ (T mt na : Addr) (bl : List Nat) (ns : List (Nat × Nat)) (H' : Hp), BagAt H' b g → SameB b g H H' → H T = none → H' T = some (.tup [.ref mt, .ref na]) → H' mt = some (.tup (bl.map nV)) → PairsAt K H' na ns → Right bl ns → (∀ c, ¬ Far ns c c) → bl.length ≤ m → Q (.ref T) H'
abbrev scPrN : List Str := ["_law_bag_here", "_law_most", "_law_blocks", "_law_many", "_law_names", "_law_some_here", "_law_made", "_law_change"]
theorem scPr : FnScope scPrN ["_law_bag_here", "_law_most", "_law_blocks"] (defScope s_parts) := ⟨rfl, rfl, rfl, by decide +kernel, rfl, by decide +kernel, by decide +kernel⟩
theorem ok_parts {f fP fO fN : Addr} {fd fdP fdO fdN : FuncData} (F : Fun K "_law_parts" "_law_parts" s_parts f fd) (B : Blt mg) (hsr : mg "sorted" = none) (FP : Fun K "_law_pick" "_law_pick" sPick fP fdP) (bP : Binds K fdP ["_law_bag_here", "_law_many"] []) (gP : mg "_law_pick" = some (.ref fP))
    (FO : Fun K "_law_some" "_law_some" sSome fO fdO) (bO : Binds K fdO ["_law_bag_here", "_law_things"] []) (gO : mg "_law_some" = some (.ref fO))
    (FN : Fun K "_law_needs" "_law_needs" s_needs fN fdN) (bN : Binds K fdN ["_law_bag_here", "_law_many", "_law_rare"] []) (gN : mg "_law_needs" = some (.ref fN)) :
    FnOk P w K mg base CX0 3 f fd ["_law_bag_here", "_law_most", "_law_blocks"] (spParts K) := by
  have GP : FnOk P w K mg base CX0 1 fP fdP ["_law_bag_here", "_law_many"] spPick := ok_pick FP B
  have GO : FnOk P w K mg base CX0 2 fO fdO ["_law_bag_here", "_law_things"] spSome := ok_some FO B FP bP gP
  have GN : FnOk P w K mg base CX0 2 fN fdN ["_law_bag_here", "_law_many", "_law_rare"] (spNeeds K) := ok_needs FN B hsr FP bP gP
  refine F.ok scPr (fun vs H Q E h => ?_) (fun cdv A outer s H vs Q E hr h => ?_)
  · obtain ⟨b, g, m, k, rfl, _⟩ := h
    rfl
  · obtain ⟨b, g, m, k, rfl, BA, hm, hk0, hk1, q⟩ := h
    refine ⟨_,
      (pss_cons (ps_asg (pe_tup (pa_cons (pe_call GP (hr.mono (by decide)) (by rfl) gP FP.kp bP .nil pass0 (pa_cons (pv 0) (pa_cons (pe_op op_add (pv 1) pe_int) pa_nil))) (pa_cons (pe_lst (pa_cons pe_int (pa_cons pe_int (pa_cons pe_int (pa_cons pe_int (pa_cons pe_int (pa_cons pe_int pa_nil))))))) pa_nil))) (pg_tup rfl (pgs_cons (pg_name (i := 3) scPr.nd rfl (.inl rfl)) (pgs_cons (pg_name (i := 4) scPr.nd rfl (.inr rfl)) pgs_nil))))
      (pss_cons (ps_if (pt_cmpR op_eq (pe_call GP (hr.mono (by decide)) (by rfl) gP FP.kp bP .nil pass0 (pa_cons (pv 0) (pa_cons pe_int pa_nil))) pe_int (nomark _))
        (pss_one (ps_set (i := 4) scPr.nd rfl (.inr rfl) (pe_lst (pa_cons pe_int (pa_cons pe_int (pa_cons pe_int (pa_cons pe_int (pa_cons pe_int (pa_cons pe_int pa_nil))))))))) pss_nil)
      (pss_cons (ps_set (i := 5) scPr.nd rfl (.inr rfl) (pe_op op_add pe_int (pe_call GP (hr.mono (by decide)) (by rfl) gP FP.kp bP .nil pass0 (pa_cons (pv 0) (pa_cons (pv 2) pa_nil)))))
      (pss_cons (ps_set (i := 6) scPr.nd rfl (.inl rfl) (pe_tupleOf (by rfl) B.tuple (pe_lc (own := [("_law_change", 7)]) (g := (gName 7)) (tt := tYes) (te := tOp (rIxL K) (tVar 4) (tCall spPick [] E0 (tCons (tVar 0) (tCons (tVar 5) tNil)))) rfl scPr.nd (pi_range1 rfl B.range (pa_cons (pv 3) pa_nil)) (blkOk_by (own := [("_law_change", 7)]) (N := scPrN) (sc := defScope s_parts) (by decide +kernel)) (fun _ _ _ _ _ => (pg_name (i := 7) scPr.nd rfl (.inl rfl))) (fun _ _ _ _ _ => pts_nil) (fun _ _ _ _ _ => (pe_ix ix_list (pv 4) (pe_call GP (hr.mono (by decide)) (by rfl) gP FP.kp bP .nil pass0 (pa_cons (pv 0) (pa_cons (pv 5) pa_nil))) (fun _ _ => rfl))))))
      (pss_one (ps_ret (pe_tup (pa_cons (pv 6) (pa_cons (pe_call GN hr (by rfl) gN FN.kp bN .nil pass0 (pa_cons (pv 0) (pa_cons (pv 3) (pa_cons (pe_call GO hr (by rfl) gO FO.kp bO .nil pass0 (pa_cons (pv 0) (pa_cons (pe_lst (pa_cons pe_int (pa_cons pe_int (pa_cons pe_int (pa_cons pe_int pa_nil))))) pa_nil))) pa_nil)))) pa_nil))))))))), ?_⟩
    have two : 2 ≤ sizeLine := by rw [sizeLine_eq]; decide
    have six : 6 ≤ sizeLine := by rw [sizeLine_eq]; decide
    refine ⟨_, rfl, _, rfl, _, _, rfl, rfl, b, g, (m : Int) + 1, rfl, BA, by omega, by omega, fun v H1 v0 v1 BA1 sb1 => ⟨six, fun nl nnl => ⟨two, fun tp ntp => ?_⟩⟩⟩
    refine ⟨tp, _, rfl, .inl (.inl upd_same), rfl, _, _, rfl, _, [], rfl, rfl, ?_⟩
    obtain ⟨mm, rfl⟩ : ∃ mm : Nat, v = (mm : Int) := ⟨v.toNat, by omega⟩
    have nbl := BA1.nb nnl
    have nnl0 : H nl = none := SameB.free BA sb1 nnl nbl.1 nbl.2
    have t1 : nl ≠ tp := ne_of_none upd_same ntp
    have s2 := (same_upd (o := .lst ([0, 1, 2, 3, 4, 5].map nV)) nnl).trans (same_upd (o := .tup [.int (mm : Int), .ref nl]) ntp)
    have e1 : upd (upd H1 nl (.lst ([0, 1, 2, 3, 4, 5].map nV))) tp (.tup [.int (mm : Int), .ref nl]) nl = some (.lst ([0, 1, 2, 3, 4, 5].map nV)) := by rw [upd_ne t1, upd_same]
    show tSeq _ _ _ _ (upd (upd H1 nl (.lst ([0, 1, 2, 3, 4, 5].map nV))) tp (.tup [.int (mm : Int), .ref nl]))
    generalize upd (upd H1 nl (.lst ([0, 1, 2, 3, 4, 5].map nV))) tp (.tup [.int (mm : Int), .ref nl]) = H2 at s2 e1 ⊢
    have BA2 := BA1.same s2
    have sb2 := sb1.trans (SameB.of s2)
    refine st_eq (σ' := [some (.ref b), some (nV m), some (nV k), some (nV mm), some (.ref nl), none, none, none]) rfl ?_
    refine ⟨_, rfl, b, g, 3, rfl, BA2, by omega, by omega, fun v3 H3 _ _ BA3 sb3 => ⟨rfl, _, rfl, ite_join (fun σ H4 => ∃ (n2 : Addr) (nms : List Nat), σ = [some (.ref b), some (nV m), some (nV k), some (nV mm), some (.ref n2), none, none, none] ∧ BagAt H4 b g ∧ SameB b g H H4 ∧ H4 n2 = some (.lst (nms.map nV)) ∧ n2 ≠ b ∧ n2 ≠ g ∧ nms.length = 6 ∧ ∀ x ∈ nms, x < 50)
      (fun kk _ => ⟨six, fun n2 nn2 => kk _ _ ⟨n2, [7, 2, 49, 0, 30, 11], rfl, BA3.same (same_upd nn2), (sb2.trans sb3).trans (SameB.of (same_upd nn2)), upd_same, (BA3.nb nn2).1, (BA3.nb nn2).2, rfl, by decide⟩⟩) (fun _ => ⟨nl, [0, 1, 2, 3, 4, 5], rfl, BA3, sb2.trans sb3, sb3 _ _ e1 nbl.1 nbl.2, nbl.1, nbl.2, rfl, by decide⟩) ?_⟩⟩
    rintro σ H4 ⟨n2, nms, rfl, BA4, sb4, en, nb1, nb2, l6, h50⟩
    refine ⟨_, rfl, _, rfl, b, g, (k : Int), rfl, BA4, by omega, by omega, fun vk H5 k0 k1 BA5 sb5 => ⟨_, _, rfl, rfl, ?_⟩⟩
    dsimp only [gName]
    refine st_eq (σ' := [some (.ref b), some (nV m), some (nV k), some (nV mm), some (.ref n2), some (.int (1 + vk)), none, none]) rfl ?_
    have en5 := sb5 _ _ en nb1 nb2
    refine ⟨_, rfl, (mm : Int), rfl, by omega, by omega, fun D nD => ?_⟩
    have nbd := BA5.nb nD
    refine lc_range (n := mm) (fun i H6 => BagAt H6 b g ∧ SameB b g H5 H6 ∧ ∃ bl : List Nat, H6 D = some (.lst (bl.map nV)) ∧ bl.length = i ∧ ∀ x ∈ bl, x < 50)
      ⟨BA5.put nbd.1 nbd.2, (SameB.refl b g H5).put nD, [], upd_same, rfl, fun x h => (by cases h)⟩ ?_ ?_
    · rintro i H6 hi ⟨BA6, s6, bl, eD, lb, hb⟩
      refine ⟨rfl, _, rfl, _, rfl, _, rfl, b, g, 1 + vk, rfl, BA6, by omega, by omega, fun u H7 u0 u1 BA7 sb7 => ?_⟩
      have en7 := sb7 _ _ (s6 _ _ en5 nb1 nb2) nb1 nb2
      have hu : u.toNat < nms.length := by omega
      have ex : nms[u.toNat]? = some nms[u.toNat] := List.getElem?_eq_getElem hu
      generalize nms[u.toNat] = x at ex
      have eD7 := sb7 _ _ eD nbd.1 nbd.2
      refine ⟨n2, _, u, nV x, rfl, rfl, .inl (.inl en7), at_of (j := u.toNat) (by omega) (map_get ex), _, eD7, by rw [List.length_map, sizeLine_eq]; omega, BA7.put nbd.1 nbd.2, (s6.trans sb7).put nD, bl ++ [x], by rw [upd_same, List.map_append]; rfl, by rw [List.length_append, lb]; rfl, fun y hy => ?_⟩
      rcases List.mem_append.mp hy with hy | hy
      · exact hb y hy
      · rw [List.mem_singleton] at hy
        subst hy
        exact h50 _ (List.mem_of_getElem? ex)
    · rintro H6 ⟨BA6, s6, bl, eD, lb, hb⟩
      refine .inl ⟨D, _, rfl, .inl (.inl eD), fun mt nmt => ?_⟩
      have BA7 := BA6.same (same_upd (o := .tup (bl.map nV)) nmt)
      have nbt := BA6.nb nmt
      have emt : upd H6 mt (.tup (bl.map nV)) mt = some (.tup (bl.map nV)) := upd_same
      have sb7 := ((sb4.trans sb5).trans s6).trans (SameB.of (same_upd (o := .tup (bl.map nV)) nmt))
      generalize upd H6 mt (.tup (bl.map nV)) = H7 at BA7 emt sb7 ⊢
      dsimp only [gName]
      refine st_eq (σ' := [some (.ref b), some (nV m), some (nV k), some (nV mm), some (.ref n2), some (.int (1 + vk)), some (.ref mt), none]) rfl ?_
      refine ⟨_, rfl, _, rfl, _, rfl, _, rfl, by rw [sizeLine_eq]; decide, fun ol nol => ?_⟩
      have nbo := BA7.nb nol
      refine ⟨b, g, ol, _, rfl, BA7.same (same_upd nol), upd_same, nbo.1, nbo.2, by decide, by decide, fun x H9 hx BA9 sb9 => ?_⟩
      obtain ⟨rr, rfl, r0, r1⟩ : ∃ rr : Nat, x = nV rr ∧ 0 < rr ∧ rr < 1000 := by
        simp only [List.mem_cons, List.not_mem_nil, or_false] at hx
        rcases hx with rfl | rfl | rfl | rfl
        · exact ⟨2, rfl, by decide, by decide⟩
        · exact ⟨3, rfl, by decide, by decide⟩
        · exact ⟨5, rfl, by decide, by decide⟩
        · exact ⟨1, rfl, by decide, by decide⟩
      refine ⟨b, g, mm, rr, rfl, BA9, by omega, r0, r1, fun na ns H10 BA10 sb10 nna PA asc inn len no => ⟨two, fun T nT => ?_⟩⟩
      have sbE := (((sb7.trans (SameB.of (same_upd nol))).trans sb9).trans sb10).trans (SameB.of (same_upd (o := .tup [.ref mt, .ref na]) nT))
      have em10 := (((SameB.of (same_upd nol)).trans sb9).trans sb10).trans (SameB.of (same_upd (o := .tup [.ref mt, .ref na]) nT)) _ _ emt nbt.1 nbt.2
      have nbT := BA10.nb nT
      refine q T mt na bl ns _ (BA10.same (same_upd nT)) sbE (SameB.free BA (((sb7.trans (SameB.of (same_upd nol))).trans sb9).trans sb10) nT nbT.1 nbT.2) upd_same em10 (PA.same (same_upd nT)) ⟨by omega, hb, len, asc, fun z hz => ?_⟩ no (by omega)
      rw [lb]
      exact inn z hz
end
end Rip

/-! The law's is_lot. -/
namespace Rip
open PySem PySem.Spec PyProof.Rows L2
theorem slT_of {K : PySem.W.Frag} {a : Addr} {xs : List V} {lo hi : Option Int} {H : Hp} {Q : VK} (h : SqT K H a xs) (q : ∀ (p : Addr) (H' : Hp), Same H H' → SqT K H' p (cutV xs lo hi) → Q (.ref p) H') : rSlA K (.ref a) lo hi H Q := by
  refine ⟨a, xs, rfl, h, fun z => ?_, fun _ p np => q p _ (same_upd np) (.inl (.inl upd_same))⟩
  refine q a H (Same.refl H) ?_
  have e : cutV xs lo hi = xs := by
    unfold cutV
    obtain ⟨z1, z2⟩ := z
    rw [z1, z2, List.drop_zero, Nat.sub_zero, List.take_length]
  rw [e]
  exact h
theorem walk_zipT {K : PySem.W.Frag} {a b : Addr} {xs ys : List V} {n : Nat} (hn : n = min xs.length ys.length) : Walk (RZ.ItzT K a b) n (fun H => SqT K H a xs ∧ SqT K H b ys) (YPair (fun i => xs[i]?) (fun i => ys[i]?)) := by
  subst hn
  refine ⟨fun i _ hi q => ?_, fun _ q => ⟨xs, ys, q.1, q.2, by omega⟩, fun i H v H' _ q y => ?_⟩
  · have h1 : i < xs.length := by omega
    have h2 : i < ys.length := by omega
    exact ⟨xs, ys, xs[i], ys[i], q.1, q.2, by simp [h1], by simp [h2]⟩
  · obtain ⟨T, x, z, h1, h2, h3, h4, h5⟩ := y
    exact ⟨T, x, z, h1, h2, h3, h4 xs q.1, h5 ys q.2⟩
theorem cut_one (l : List Nat) : cutV (l.map nV) (some 1) none = (l.drop 1).map nV := by
  unfold cutV
  rw [HT.sIx_none, show (some (1 : Int)) = some ((1 : Nat) : Int) from rfl, HT.sIx_nat, List.length_map, List.map_drop]
  cases l with
  | nil => rfl
  | cons x l =>
    rw [List.length_cons, Nat.min_eq_left (by omega)]
    exact List.take_of_length_le (by rw [List.length_drop, List.length_map, List.length_cons]; exact Nat.le_refl _)
def adj (l : List Nat) (k : Nat) : List Bool := (List.range k).map fun i => decide (l.getD i 0 < l.getD (i + 1) 0)
theorem adj_succ (l : List Nat) (k : Nat) : adj l (k + 1) = adj l k ++ [decide (l.getD k 0 < l.getD (k + 1) 0)] := by
  unfold adj
  rw [List.range_succ, List.map_append]
  rfl
theorem adj_asc (l : List Nat) : (adj l (l.length - 1)).all id = true ↔ l.Pairwise (· < ·) := by
  unfold adj
  rw [List.all_map, List.all_eq_true]
  constructor
  · intro h
    have step : ∀ i, i + 1 < l.length → l.getD i 0 < l.getD (i + 1) 0 := fun i hi => by
      have := h i (List.mem_range.mpr (by omega))
      exact of_decide_eq_true this
    have far : ∀ d i, i + d + 1 < l.length → l.getD i 0 < l.getD (i + d + 1) 0 := by
      intro d
      induction d with
      | zero => exact fun i hi => step i hi
      | succ d ih => exact fun i hi => Nat.lt_trans (ih i (by omega)) (step (i + d + 1) (by omega))
    rw [List.pairwise_iff_getElem]
    intro i j hi hj hij
    have z := far (j - i - 1) i (by omega)
    rw [show i + (j - i - 1) + 1 = j by omega, List.getD_eq_getElem?_getD, List.getD_eq_getElem?_getD, List.getElem?_eq_getElem hi, List.getElem?_eq_getElem hj] at z
    exact z
  · intro h i hi
    have hi := List.mem_range.mp hi
    have z := (List.pairwise_iff_getElem.mp h) i (i + 1) (by omega) (by omega) (by omega)
    refine decide_eq_true ?_
    rw [List.getD_eq_getElem?_getD, List.getD_eq_getElem?_getD, List.getElem?_eq_getElem (by omega : i < l.length), List.getElem?_eq_getElem (by omega : i + 1 < l.length)]
    exact z
theorem lot_adj (n : Nat) {l : List Nat} (h : ∀ i ∈ l, i < n) : lotGo n (-1) (l.map nV) = (adj l (l.length - 1)).all id := by
  rw [Bool.eq_iff_iff, adj_asc]
  constructor
  · intro z
    obtain ⟨l', e, hp, _⟩ := lotGo_nat n _ _ z
    have : l = l' := by
      have inj : ∀ {a b : List Nat}, a.map nV = b.map nV → a = b := by
        intro a
        induction a with
        | nil => intro b e; cases b with
          | nil => rfl
          | cons _ _ => cases e
        | cons x a ih => intro b e; cases b with
          | nil => cases e
          | cons y b =>
            rw [List.map_cons, List.map_cons] at e
            injection e with e1 e2
            injection e1 with e1
            rw [ih e2, show x = y by omega]
      exact inj e
    subst this
    exact hp
  · intro hp
    exact lotGo_map n l (-1) hp fun i hi => ⟨h i hi, by omega⟩
/-- all below: they are numbers -/
theorem all_below (n : Nat) : ∀ (xs : List V), (xs.map (isBelow n)).all id = true → ∃ l : List Nat, xs = l.map nV ∧ ∀ i ∈ l, i < n
  | [], _ => ⟨[], rfl, fun _ h => nomatch h⟩
  | x :: xs, h => by
    rw [List.map_cons, List.all_cons, Bool.and_eq_true] at h
    obtain ⟨c, rfl, hc⟩ := below_nat (n := n) h.1
    obtain ⟨l, rfl, hl⟩ := all_below n xs h.2
    refine ⟨c :: l, rfl, fun i hi => ?_⟩
    rcases List.mem_cons.mp hi with e | hi
    · subst e; exact hc
    · exact hl i hi
theorem not_below (n : Nat) : ∀ (xs : List V) (a : Int), (xs.map (isBelow n)).all id = false → lotGo n a xs = false
  | [], _, h => by cases h
  | x :: xs, a, h => by
    cases e : lotGo n a (x :: xs) with
    | false => rfl
    | true =>
      obtain ⟨l, hl, _, hb⟩ := lotGo_nat n _ _ e
      have : ((x :: xs).map (isBelow n)).all id = true := by
        rw [hl, List.map_map, List.all_map, List.all_eq_true]
        intro i hi
        show decide ((0 : Int) ≤ (i : Int) ∧ (i : Int) < (n : Int)) = true
        have := (hb i hi).1
        exact decide_eq_true (by omega)
      rw [this] at h
      cases h
section
variable {P : Program} {w : World} {K : PySem.W.Frag} {mg : Str → Option Value} {base : Heap}
abbrev s_lawlot : Stmt := top 38
def spLawLot (K : PySem.W.Frag) : Sp := fun vs H Q _ => ∃ (n : Nat) (v : V) (tp : Bool), vs = [v, nV n] ∧ ObT K H v tp ∧ (tp = false → Q (.bl false) H) ∧
  (tp = true → ∃ (t : Addr) (xs : List V), v = .ref t ∧ SqT K H t xs ∧ xs.length ≤ 900000 ∧ (∀ x ∈ xs, ∀ H', Same H H' → Ob K H' x) ∧ ∀ H', Same H H' → Q (.bl (lotGo n (-1) xs)) H')
abbrev scLlN : List Str := ["_law_thing", "_law_many", "_law_one", "_law_other"]
theorem scLl : FnScope scLlN ["_law_thing", "_law_many"] (defScope s_lawlot) := ⟨rfl, rfl, rfl, by decide +kernel, rfl, by decide +kernel, by decide +kernel⟩
theorem ok_lawlot {f fI : Addr} {fd fdI : FuncData} (F : Fun K "_law_is_lot" "_law_is_lot" s_lawlot f fd) (B : Blt mg) (FI : Fun K "_law_is_int" "_law_is_int" s_isint fI fdI) (bI : Binds K fdI ["_law_thing", "_law_least", "_law_most"] []) (gI : mg "_law_is_int" = some (.ref fI)) :
    FnOk P w K mg base CX0 2 f fd ["_law_thing", "_law_many"] (spLawLot K) := by
  have GI : FnOk P w K mg base CX0 1 fI fdI ["_law_thing", "_law_least", "_law_most"] (spIsInt K) := ok_isint FI B
  refine F.ok scLl (fun vs H Q E h => ?_) (fun cdv A outer s H vs Q E hr h => ?_)
  · obtain ⟨n, v, tp, rfl, _⟩ := h
    rfl
  · obtain ⟨n, v, tp, rfl, ot, q0, q1⟩ := h
    refine ⟨_,
      (pss_cons (ps_if (pw_or (pt_not (pt_val (pe_callB call_isi (by rfl) B.isinstance PyProof.Rows.boot_isinstance (pa_cons (pv 0) (pa_cons (pe_bltn (v := .ty "tuple") (by rfl) B.tuple PyProof.Rows.boot_tuple rfl) pa_nil)))))
          (pw_or1 (pt_not (pt_val (pe_callB (cr_all rfl) (by rfl) B.all PyProof.Rows.boot_all (pa_cons (pe_lc (own := [("_law_one", 2)]) (g := gName 2) (tt := tYes) (te := tCall (spIsInt K) [] E0 (tCons (tVar 2) (tCons (tC (.int 0)) (tCons (tOp (rI0 fun i j => .int (i - j)) (tVar 1) (tC (.int 1))) tNil)))) rfl scLl.nd (pi_tup (pv 0)) (blkOk_by (own := [("_law_one", 2)]) (N := scLlN) (sc := defScope s_lawlot) (by decide +kernel)) (fun _ _ _ _ _ => (pg_name (i := 2) scLl.nd rfl (.inl rfl))) (fun _ _ _ _ _ => pts_nil)
            (fun _ _ _ _ _ => (pe_call GI hr (by rfl) gI FI.kp bI .nil pass0 (pa_cons (pv 2) (pa_cons pe_int (pa_cons (pe_op op_sub (pv 1) pe_int) pa_nil)))))) pa_nil)))))).pt
        (pss_one (ps_ret pe_bl)) pss_nil)
      (pss_one (ps_ret (pe_callB (cr_all rfl) (by rfl) B.all PyProof.Rows.boot_all (pa_cons (pe_lc (own := [("_law_one", 2), ("_law_other", 3)]) (g := gTwo K 2 3) (tt := tYes) rfl scLl.nd (RZ.pi_zipA (by rfl) B.zip (pa_cons (pv 0) (pa_cons (pe_slice sl_tupA (pv 0) (po_some pe_int) po_none) pa_nil))) (blkOk_by (own := [("_law_one", 2), ("_law_other", 3)]) (N := scLlN) (sc := defScope s_lawlot) (by decide +kernel))
        (fun _ _ _ _ _ => (pg_tup rfl (pgs_cons (pg_name (i := 2) scLl.nd rfl (.inl rfl)) (pgs_cons (pg_name (i := 3) scLl.nd rfl (.inl rfl)) pgs_nil)))) (fun _ _ _ _ _ => pts_nil) (fun _ _ _ _ _ => (pe_cmpR op_lt (pv 2) (pv 3) (nomark _)))) pa_nil))))), ?_⟩
    obtain ⟨tt, ty, k1⟩ := ot
    refine ⟨_, rfl, v, _, tt, _, tp, rfl, .ty "tuple", ty, k1, _, rfl, ?_⟩
    cases tp with
    | false => exact iteT (q0 rfl)
    | true =>
      obtain ⟨t, xs, rfl, hS, hxl, ho, q⟩ := q1 rfl
      refine iteF ?_
      refine ⟨_, rfl, t, rfl, ⟨_, hS⟩, fun D nD => ?_⟩
      refine lc_tup (K := K) (a := t) (xs := xs) (fun i H2 => Same H H2 ∧ H2 D = some (.lst (((xs.take i).map (isBelow n)).map V.bl))) ⟨same_upd nD, upd_same⟩ (fun i H2 _ z => same_seqT z.1 hS) ?_ ?_
      · rintro i x H2 ex ⟨s2, eD⟩
        refine ⟨rfl, _, rfl, _, rfl, _, _, rfl, rfl, x, 0, (n : Int) - 1, rfl, ho x (at_mem ex) H2 s2, _, eD, ?_, same_put s2 nD, ?_⟩
        · rw [List.length_map, List.length_map, List.length_take, sizeLine_eq]
          omega
        · rw [upd_same, inR_below, take_one ex, List.map_append, List.map_append]
          rfl
      · rintro H2 ⟨s2, eD⟩
        rw [List.take_length] at eD
        refine ⟨D, xs.map (isBelow n), rfl, .inl (.inl eD), _, rfl, ?_⟩
        cases eb : (xs.map (isBelow n)).all id with
        | false =>
          have := q H2 s2
          rw [not_below n xs (-1) eb] at this
          exact iteT this
        | true =>
          refine iteF ?_
          obtain ⟨l, rfl, hl⟩ := all_below n xs eb
          rw [lot_adj n hl] at q
          have hS2 := same_seqT s2 hS
          refine ⟨_, rfl, _, rfl, (1 : Int), rfl, ?_⟩
          dsimp only [tNoPart, Cx.nox]
          refine slT_of hS2 fun p H3 s3 e3 => ?_
          rw [cut_one] at e3
          have hS3 := same_seqT s3 hS2
          have ln : l.length - 1 = min (l.map nV).length ((l.drop 1).map nV).length := by
            rw [List.length_map, List.length_map, List.length_drop]
            omega
          refine ⟨t, p, _, _, rfl, .inr ⟨hS3, e3, fun D2 nD2 => ?_⟩⟩
          refine lc_it (walk_zipT (K := K) (a := t) (b := p) ln) (fun i H4 => Same H3 H4 ∧ H4 D2 = some (.lst ((adj l i).map V.bl))) ⟨same_upd nD2, upd_same⟩ (fun i H4 _ z => ⟨same_seqT z.1 hS3, same_seqT z.1 e3⟩) ?_ ?_
          · rintro i x H4 H5 hi ⟨s4, eD4⟩ ⟨T, v1, v2, rfl, nT, rfl, e1, e2⟩
            have i1 : l[i]? = some l[i] := List.getElem?_eq_getElem (by omega)
            have i2 : l[i + 1]? = some l[i + 1] := List.getElem?_eq_getElem (by omega)
            have g1 := getD_some (d := 0) i1
            have g2 := getD_some (d := 0) i2
            have e1 : (l.map nV)[i]? = some v1 := e1
            have e2 : ((l.drop 1).map nV)[i]? = some v2 := e2
            rw [List.getElem?_map, i1] at e1
            rw [List.getElem?_map, List.getElem?_drop, Nat.add_comm 1 i, i2] at e2
            cases e1
            cases e2
            have nDT : D2 ≠ T := ne_of_none eD4 nT
            refine ⟨T, _, rfl, .inl (.inl upd_same), rfl, _, _, rfl, _, [], rfl, rfl, ?_⟩
            refine ⟨rfl, _, rfl, _, rfl, _, _, rfl, rfl, _, by rw [upd_ne nDT]; exact eD4, ?_, same_put (s4.trans (same_upd nT)) nD2, ?_⟩
            · rw [List.length_map]
              unfold adj
              rw [List.length_map, List.length_range, sizeLine_eq]
              rw [List.length_map] at hxl
              omega
            · rw [upd_same, adj_succ, List.map_append, g1, g2]
              have eA : V.bl (decide (((l[i] : Nat) : Int) < ((l[i + 1] : Nat) : Int))) = V.bl (decide (l[i] < l[i + 1])) := congrArg V.bl (decide_eq_decide.mpr (by omega))
              exact congrArg (fun z => some (HO.lst (List.map V.bl (adj l i) ++ [z]))) eA
          · rintro H4 ⟨s4, eD4⟩
            exact ⟨D2, _, rfl, .inl (.inl eD4), q H4 ((s2.trans s3).trans s4)⟩
end
end Rip

/-! The law's word: what it makes of a lambda; xs.count(True). -/
namespace L2
open PySem PySem.Spec PyProof.Rows
/-! ### xs.count(b), all True or False -/
def eqkB (k : Bool) (v : Value) : Bool := match v with
  | .bool n => n == k
  | _ => false
theorem eqkB_count {k : Bool} : ∀ {bs : List Bool}, (bs.map Value.bool).countP (eqkB k) = bs.count k
  | [] => rfl
  | b :: bs => by
    have ih := eqkB_count (k := k) (bs := bs)
    rw [List.map_cons, List.countP_cons, List.count_cons, ih] <;> rfl
def rCntB (K : PySem.W.Frag) : V → List V → Hp → VK → Prop := fun x xs H Q => ∃ (p : Addr) (bs : List Bool) (k : Bool), x = .ref p ∧ xs = [.bl k] ∧ SqL K H p (bs.map V.bl) ∧ Q (.int (bs.count k : Nat)) H
theorem mt_lcountB {X : Cx} : MtR X "list.count" (rCntB X.K) := by
  intro pins s σ H x xs v us Q I rx rxs h
  obtain ⟨p, bs, k, rfl, rfl, hs, q⟩ := h
  cases rx
  obtain ⟨u, rfl, ru⟩ := rxs.one
  obtain rfl : u = Value.bool k := ru
  obtain ⟨its, rv, ⟨⟨cls, dd, data, sl⟩, n, ho, hc, hdn, hd⟩, hlen⟩ := I.list hs
  simp only at hc hd
  subst hc hd
  have hi := rv.bls
  refine call_meets PySem.F.slot_list_count ⟨_, ho, rfl⟩ PySem.F.entry_list_count (PySem.F.args_list_count_2 _ _)
    (SeqAt.list_countAt p its.toArray n dd sl (.bool k) (eqkB k)) ⟨ho, fun y hy => ?_, ?_⟩
  · have hy : y ∈ its := by simpa using hy
    rw [hi] at hy
    obtain ⟨b, _, rfl⟩ := List.mem_map.mp hy
    exact SeqAt.EqAt.bool_bool b k
  · have ec : its.toArray.toList.countP (eqkB k) = bs.count k := by
      rw [hi]
      exact eqkB_count
    refine ⟨.int (bs.count k : Nat), H, I.tok _, ⟨s.toks, ?_⟩, q⟩
    show Value.int ((its.toArray.toList.countP (eqkB k) : Nat) : Int) s.toks = Value.int ((bs.count k : Nat) : Int) s.toks
    rw [ec]
/-- isinstance of the exception that the suite holds, whatever its class -/
theorem call_isEg {X : Cx} {a : Addr} {oe : Obj} {cls : Value} {d : Option Addr} {pn : List (Addr × Obj)} (hz : Zc cls d oe) (hf : ∃ vs, oe.data = .fields vs) :
    CallR (X.suite a ((a, oe) :: pn)) (.builtin "isinstance") (fun xs H Q => ∃ D, cls = .ref D ∧ d = none ∧ ExcC X.K D ∧ rIsE X.K D a xs H Q) := by
  intro pins s σ H xs us Q I r h
  obtain ⟨D, rfl, rfl, C, h⟩ := h
  exact call_isE C hz hf pins s σ H xs us Q I r h
end L2
namespace Rip
open PySem PySem.Spec PyProof.Rows L2
theorem boot_ve : bootBuiltins "ValueError" = some (.type "ValueError") := by decide +kernel
theorem _root_.L2.PE.mono {X : Cx} {e : Expr} {te : TE} (h : PE X e te) : PE X e (fun σ H Q => ∃ Q1 : VK, te σ H Q1 ∧ ∀ v H', Q1 v H' → Q v H') :=
  ⟨fun pins s σ H Q I ⟨Q1, h1, h2⟩ => thn (h.run pins s σ H Q1 I h1) fun _ _ ⟨x, H1, I1, r1, q1⟩ => ⟨x, H1, I1, r1, h2 _ _ q1⟩⟩
theorem takes_len {X : Cx} {W : WX} {n : Nat} (hn : X.N.length = n) (t : Takes X W) : Takes X (fun cls d σ H => σ.length = n → W cls d σ H) := by
  intro u s' x
  obtain ⟨a, B, sI, pins, σ, H, cls, d, e, I, z1, z2, z3, z4, z5, z6, w⟩ := x
  refine t u s' ⟨a, B, sI, pins, σ, H, cls, d, e, I, z1, z2, z3, z4, z5, z6, w ?_⟩
  have l := I.len
  omega
end Rip

namespace Rip
open PySem PySem.Spec PyProof.Rows L2
/-- the classes that the word knows -/
structure WordT (K : PySem.W.Frag) (mg : Str → Option Value) (CW CN CL CB : Addr) : Prop where
  gW : mg "WaveError" = some (.ref CW)
  gN : mg "NoChange" = some (.ref CN)
  gL : mg "NoLot" = some (.ref CL)
  gB : mg "NoBlock" = some (.ref CB)
  v : mg "ValueError" = none
  i : mg "isinstance" = none
  xN : ExcC K CN
  xL : ExcC K CL
  xB : ExcC K CB
  nn : PySem.W.kitOne K (.ref CN) (.ref CN) = some true
  nl : PySem.W.kitOne K (.ref CN) (.ref CL) = some false
  nb : PySem.W.kitOne K (.ref CN) (.ref CB) = some false
  nv : PySem.W.kitOne K (.ref CN) (.type "ValueError") = some true
  ln : PySem.W.kitOne K (.ref CL) (.ref CN) = some false
  ll : PySem.W.kitOne K (.ref CL) (.ref CL) = some true
  lb : PySem.W.kitOne K (.ref CL) (.ref CB) = some false
  lv : PySem.W.kitOne K (.ref CL) (.type "ValueError") = some true
  bn : PySem.W.kitOne K (.ref CB) (.ref CN) = some false
  bl : PySem.W.kitOne K (.ref CB) (.ref CL) = some false
  bb : PySem.W.kitOne K (.ref CB) (.ref CB) = some true
  bv : PySem.W.kitOne K (.ref CB) (.type "ValueError") = some true
  eN : PySem.W.exmOne K (.ref CN) (.ref CW) = some true
  eL : PySem.W.exmOne K (.ref CL) (.ref CW) = some true
  eB : PySem.W.exmOne K (.ref CB) (.ref CW) = some true
/-- what the word is told -/
def TWord (CN CL CB : Addr) : (XK → Hp → VK → Prop) → Hp → VK → Prop := fun tl H Q =>
  tl (fun cls d H' => d = none ∧ ((cls = .ref CN ∧ ∀ H2, Same H' H2 → Q (.str "change") H2) ∨ (cls = .ref CL ∧ ∀ H2, Same H' H2 → Q (.str "lot") H2) ∨ (cls = .ref CB ∧ ∀ H2, Same H' H2 → Q (.str "block") H2))) H (fun _ H' => Q (.str "let") H')
abbrev s_word : Stmt := top 39
abbrev scWdN : List Str := ["_law_ask", "_law_word_here", "e", "_law_flags"]
theorem scWd : FnScope scWdN ["_law_ask"] (defScope s_word) := ⟨rfl, rfl, rfl, by decide +kernel, rfl, by decide +kernel, by decide +kernel⟩
/-- isinstance(e, c) in the suite -/
abbrev tIsg (K : PySem.W.Frag) (a : Addr) (cls : Value) (d : Option Addr) (c : V) : TE := tCB (fun xs H Q => ∃ D, cls = Value.ref D ∧ d = none ∧ ExcC K D ∧ rIsE K D a xs H Q) (tCons (tVar 2) (tCons (tC c) tNil))
abbrev tsWord (K : PySem.W.Frag) (CN CL CB a : Addr) (cls : Value) (d : Option Addr) : TS :=
  tSeq (tAsg (tLst (tCons (tIsg K a cls d (.ref CN)) (tCons (tIsg K a cls d (.ref CL)) (tCons (tIsg K a cls d (.ref CB)) tNil)))) (gName 3))
    (tSeq (tAsg (tC (.str "other")) (gName 1))
      (tIfS (tAnd (tTest (tOp rEq (tBM K "list" (rCntB K) (tVar 3) (tCons (tC (.bl true)) tNil)) (tC (.int 1)))) (tB (tIsg K a cls d (.ty "ValueError"))))
        (tAsg (tOp (rIxL K) (tLst (tCons (tC (.str "change")) (tCons (tC (.str "lot")) (tCons (tC (.str "block")) tNil)))) (tBM K "list" (rIndex K) (tVar 3) (tCons (tC (.bl true)) tNil))) (gName 1)) tNext))
/-- the suite, of an exception of the class at D: the flags, the place of the one that is set -/
theorem suite_word {K : PySem.W.Frag} {CN CL CB a D : Addr} {b1 b2 b3 : Bool} {k : Nat} {nm : Str} (x : ExcC K D) (h1 : PySem.W.kitOne K (.ref D) (.ref CN) = some b1) (h2 : PySem.W.kitOne K (.ref D) (.ref CL) = some b2) (h3 : PySem.W.kitOne K (.ref D) (.ref CB) = some b3)
    (hv : PySem.W.kitOne K (.ref D) (.type "ValueError") = some true) (hc : [b1, b2, b3].count true = 1) (hk : [b1, b2, b3][k]? = some true) (hno : ∀ m z, m < k → [b1, b2, b3][m]? = some z → z = false) (hn : [("change" : Str), ("lot" : Str), ("block" : Str)][k]? = some nm)
    {E : Ends} {x0 x1 x3 : Option V} {H : Hp} (q : ∀ H2, Same H H2 → ∀ v3, E.nx [x0, some (.str nm), some (.ref a), v3] H2) : tsWord K CN CL CB a (.ref D) none E [x0, x1, some (.ref a), x3] H := by
  have three : 3 ≤ sizeLine := by rw [sizeLine_eq]; decide
  refine ⟨_, rfl, D, rfl, rfl, x, .ref CN, .ref CN, b1, rfl, fun u h => h, h1, _, rfl, D, rfl, rfl, x, .ref CL, .ref CL, b2, rfl, fun u h => h, h2, _, rfl, D, rfl, rfl, x, .ref CB, .ref CB, b3, rfl, fun u h => h, h3, three, fun l nl => ?_⟩
  have e1 : upd H l (.lst [.bl b1, .bl b2, .bl b3]) l = some (.lst ([b1, b2, b3].map V.bl)) := upd_same
  have s1 : Same H (upd H l (.lst [.bl b1, .bl b2, .bl b3])) := same_upd nl
  dsimp only [gName]
  generalize upd H l (.lst [.bl b1, .bl b2, .bl b3]) = H1 at e1 s1 ⊢
  refine st_eq (σ' := [x0, x1, some (.ref a), some (.ref l)]) rfl ?_
  refine ⟨_, rfl, .inl ⟨rfl, _, .inl (.inl e1)⟩, l, [b1, b2, b3], true, rfl, rfl, .inl (.inl e1), rfl, _, rfl, ?_⟩
  rw [hc]
  refine iteY rfl ?_
  refine ⟨_, rfl, D, rfl, rfl, x, .ty "ValueError", .type "ValueError", true, rfl, fun u h => h, hv, _, rfl, iteT ?_⟩
  refine ⟨three, fun l2 nl2 => ?_⟩
  have n12 : l ≠ l2 := ne_of_none e1 nl2
  have e2 : upd H1 l2 (.lst [.str "change", .str "lot", .str "block"]) l = some (.lst ([b1, b2, b3].map V.bl)) := by rw [upd_ne n12]; exact e1
  refine ⟨_, rfl, .inl ⟨rfl, _, .inl (.inl e2)⟩, l, [b1, b2, b3].map V.bl, .bl true, k, .bl true, rfl, rfl, .inl (.inl e2), rfl, rfl, by rw [List.getElem?_map, hk]; rfl, rfl, fun m z hm hz => ?_, ?_⟩
  · rw [List.getElem?_map] at hz
    cases em : [b1, b2, b3][m]? with
    | none => rw [em] at hz; cases hz
    | some y =>
      rw [em] at hz
      cases hz
      rw [hno m y hm em]
      rfl
  · refine ⟨l2, [("change" : Str), ("lot" : Str), ("block" : Str)].map V.str, (k : Int), .str nm, rfl, rfl, .inl (.inl upd_same), at_of (j := k) rfl (by rw [List.getElem?_map, hn]; rfl), ?_⟩
    exact q _ (s1.trans (same_upd nl2)) _
theorem word_gives {X : Cx} {g CW CN CL CB : Addr} {cdg : Value} {q : Str} (T : WordT X.K X.mg CW CN CL CB) : LamX.GivesTo X scWdN "_law_word" (defScope s_word) g cdg (defBody s_word) "_law_ask" q (TWord CN CL CB) := by
  intro f c' s H Q tl act hc h
  refine ⟨_,
    (pss_cons (ps_set (i := 1) scWd.nd rfl (.inl rfl) pe_str)
    (pss_cons (ps_try_as (i := 2) (c := .ref CW) (ts := tsWord X.K CN CL CB) (tb := fun W D σ H => ∃ Ech : XK, (∀ cls d (σ' : L2.St) H', Ech cls d H' → σ'.length = 4 → W cls d σ' H') ∧ σ[0]? = some (some (.ref f)) ∧ H c' = some (LamX.CodeO c' q) ∧ ∃ Q1 : VK, tl Ech H Q1 ∧ ∀ v H', Q1 v H' → D.nx σ H')
        rfl rfl scWd.nd rfl rfl ⟨rfl, by decide, .inl T.gW⟩ LamX.takes0 (fun W pn xe tk _ => ?_) (fun a oe cls d pn hz hf =>
          (pss_cons (ps_set (i := 3) scWd.nd rfl (.inl rfl) (pe_lst (pa_cons (pe_callB (call_isEg (X := (cxOf C8.CX0 X.prog X.w X.K X.mg X.base scWdN "_law_word" (defScope s_word) g cdg X.A X.stack s H C8.E0).nox) (a := a) (pn := pn) hz hf) (by rfl) T.i PyProof.Rows.boot_isinstance (pa_cons (pv 2) (pa_cons (pe_glob (v := .ref CN) rfl T.gN rfl) pa_nil)))
              (pa_cons (pe_callB (call_isEg (X := (cxOf C8.CX0 X.prog X.w X.K X.mg X.base scWdN "_law_word" (defScope s_word) g cdg X.A X.stack s H C8.E0).nox) (a := a) (pn := pn) hz hf) (by rfl) T.i PyProof.Rows.boot_isinstance (pa_cons (pv 2) (pa_cons (pe_glob (v := .ref CL) rfl T.gL rfl) pa_nil)))
              (pa_cons (pe_callB (call_isEg (X := (cxOf C8.CX0 X.prog X.w X.K X.mg X.base scWdN "_law_word" (defScope s_word) g cdg X.A X.stack s H C8.E0).nox) (a := a) (pn := pn) hz hf) (by rfl) T.i PyProof.Rows.boot_isinstance (pa_cons (pv 2) (pa_cons (pe_glob (v := .ref CB) rfl T.gB rfl) pa_nil))) pa_nil)))))
          (pss_cons (ps_set (i := 1) scWd.nd rfl (.inl rfl) pe_str)
          (pss_one (ps_if (PW.pt (pw_and (pt_cmpR op_eq (pe_bm PySem.F.plainAttrs_list PySem.F.slot_list_count PySem.F.type_list_count mt_lcountB (pv 3) (pa_cons pe_bl pa_nil)) pe_int (nomark _)) (pw_and1 (pt_val (pe_callB (call_isEg (X := (cxOf C8.CX0 X.prog X.w X.K X.mg X.base scWdN "_law_word" (defScope s_word) g cdg X.A X.stack s H C8.E0).nox) (a := a) (pn := pn) hz hf) (by rfl) T.i PyProof.Rows.boot_isinstance (pa_cons (pv 2) (pa_cons (pe_bltn (v := .ty "ValueError") (by rfl) T.v boot_ve rfl) pa_nil)))))))
            (pss_one (ps_set (i := 1) scWd.nd rfl (.inl rfl) (pe_ix ix_list (pe_lst (pa_cons pe_str (pa_cons pe_str (pa_cons pe_str pa_nil)))) (pe_bm PySem.F.plainAttrs_list PySem.F.slot_list_index PySem.F.type_list_index mt_index (pv 3) (pa_cons pe_bl pa_nil)) (fun _ _ => rfl)))) pss_nil))))))
    (pss_one (ps_ret (pv 1))))), ?_⟩
  · refine ⟨fun pins s' σ H' D I h' => ?_⟩
    obtain ⟨Ech, hW, h1, h2, Q1, h3, h4⟩ := h'
    exact (pss_one (ps_expr (act (fun cls d σ H => σ.length = 4 → W cls d σ H) pn xe Ech _ _ (takes_len rfl tk) hW).mono)).run pins s' σ H' D I ⟨Q1, ⟨h1, h2, h3⟩, h4⟩
  · have fin : ∀ (H2 : Hp) (nm : Str) (x0 v3 : Option V), Q (.str nm) H2 → (tRet (tVar 1) { nx := fun _ H' => Q .non H', rt := Q } : L2.St → Hp → Prop) [x0, some (.str nm), none, v3] H2 := fun H2 nm x0 v3 h => ⟨_, rfl, h⟩
    refine ⟨fun cls d H' => d = none ∧ ((cls = .ref CN ∧ ∀ H2, Same H' H2 → Q (.str "change") H2) ∨ (cls = .ref CL ∧ ∀ H2, Same H' H2 → Q (.str "lot") H2) ∨ (cls = .ref CB ∧ ∀ H2, Same H' H2 → Q (.str "block") H2)), ?_, rfl, hc, ?_⟩
    · rintro cls d σ' H' ⟨rfl, hh⟩ hl
      match σ', hl with
      | [x0, x1, x2, x3], _ =>
        rcases hh with ⟨rfl, hq⟩ | ⟨rfl, hq⟩ | ⟨rfl, hq⟩
        · exact ⟨true, T.eN, fun _ a ha => suite_word (k := 0) (nm := "change") T.xN T.nn T.nl T.nb T.nv rfl rfl (fun m z hm => absurd hm (Nat.not_lt_zero _)) rfl fun H2 s2 v3 => fin H2 _ _ _ (hq H2 s2), fun z => nomatch z⟩
        · exact ⟨true, T.eL, fun _ a ha => suite_word (k := 1) (nm := "lot") T.xL T.ln T.ll T.lb T.lv rfl rfl (fun m z hm hz => by
            have : m = 0 := by omega
            subst this
            exact (Option.some.inj hz).symm) rfl fun H2 s2 v3 => fin H2 _ _ _ (hq H2 s2), fun z => nomatch z⟩
        · exact ⟨true, T.eB, fun _ a ha => suite_word (k := 2) (nm := "block") T.xB T.bn T.bl T.bb T.bv rfl rfl (fun m z hm hz => by
            have : m = 0 ∨ m = 1 := by omega
            rcases this with rfl | rfl
            · exact (Option.some.inj hz).symm
            · exact (Option.some.inj hz).symm) rfl fun H2 s2 v3 => fin H2 _ _ _ (hq H2 s2), fun z => nomatch z⟩
    · exact ⟨_, h, fun v H' hq => ⟨_, rfl, hq⟩⟩
end Rip

/-! t[::-1] of a tuple. -/
namespace Rip
open PySem PySem.Spec PyProof.Rows L2 HT
section
variable {prog : Program} {w : World} {A : Around} {E : Value → Shared → Prop} {z : Shared}
theorem adj_back (n : Nat) : Builtin.Slice.sliceAdjust none none (-1) (n : Int) = ((n : Int) - 1, -1) := by
  unfold Builtin.Slice.sliceAdjust
  simp
theorem places_back (n : Nat) : Builtin.Slice.slicePlaces ((n : Int) - 1) (-1) (-1) = n := by
  unfold Builtin.Slice.slicePlaces
  rw [if_neg (by decide)]
  by_cases fin : 0 < n
  · rw [if_pos (by omega)]
    simp
  · rw [if_neg (by omega)]
    omega
theorem pick_back (xs : Array Value) : ((List.range xs.size).filterMap fun (k : Nat) => xs[((xs.size : Int) - 1 + (k : Int) * (-1)).toNat]?).toArray = xs.toList.reverse.toArray := by
  congr 1
  have e : (fun (k : Nat) => xs[((xs.size : Int) - 1 + (k : Int) * (-1)).toNat]?) = (fun k => xs[k]?) ∘ fun k => xs.size - 1 - k := by
    funext k
    show xs[((xs.size : Int) - 1 + (k : Int) * (-1)).toNat]? = xs[xs.size - 1 - k]?
    congr 1
    omega
  rw [e, ← List.filterMap_map, PySem.W.krv_range, List.filterMap_reverse]
  exact congrArg List.reverse (PySem.W.krv_all xs)
theorem applied_back {sl : Addr} {vl vu vs : Value} {n : Nat} {Q : Int × Int × Nat → Shared → Prop} (hs : z.heap.IsSliceOf sl vl vu vs) (pl : IsPart vl none) (pu : IsPart vu none) (ps : IsPart vs (some (-1)))
    (fin : Q ((n : Int) - 1, -1, n) z) : wpAny (model prog w) A (Builtin.Slice.sliceApplied (.ref sl) (pure (n : Int))) Q E z := by
  obtain ⟨o, ho, hc, hd⟩ := id hs
  cases pl
  cases pu
  unfold Builtin.Slice.sliceApplied Builtin.Slice.sliceFields
  refine wpAny_bind (wpAny_bind (wpAny_field ho hd rfl (wpAny_bind (wpAny_field ho hd rfl (wpAny_bind (wpAny_field ho hd rfl (wpAny_pure ?_)))))))
  refine wpAny_bind (slicePart_ ps ?_)
  show wpAny _ _ (if ((-1 : Int) == 0) = true then _ else _) _ _ z
  rw [if_neg (by decide)]
  refine wpAny_bind (slicePart_none (wpAny_bind (slicePart_none (wpAny_bind (wpAny_pure ?_)))))
  show wpAny _ _ (match Builtin.Slice.sliceAdjust none none (-1) (n : Int) with | (lo, hi) => pure (lo, (-1 : Int), Builtin.Slice.slicePlaces lo hi (-1))) _ _ z
  rw [adj_back]
  show wpAny _ _ (pure ((n : Int) - 1, (-1 : Int), Builtin.Slice.slicePlaces ((n : Int) - 1) (-1) (-1))) _ _ z
  rw [places_back]
  exact wpAny_pure fin
theorem item_back {t sl : Addr} {items : Array Value} {vl vu vs : Value} {Q : Value → Shared → Prop} (tu : IsTup z.heap t items) (hs : z.heap.IsSliceOf sl vl vu vs) (pl : IsPart vl none) (pu : IsPart vu none) (ps : IsPart vs (some (-1)))
    (fin : Q (.ref z.heap.objs.size) { z with heap := z.heap.push { cls := .type "tuple", data := .seq items.toList.reverse.toArray } }) (hsz : items.size ≤ sizeLine) : wpAny (model prog w) A (getItem (.ref t) (.ref sl)) Q E z := by
  have fits : sizeOk (.seq items.toList.reverse.toArray) := by
    show items.toList.reverse.toArray.size ≤ sizeLine
    simpa using hsz
  obtain ⟨o, ho, hc, hd⟩ := id hs
  have hT : z.TypeIs (.ref sl) "slice" := ⟨o, ho, hc⟩
  unfold getItem
  (try with_reducible refine wpAny_holding ?_); (first | refine wpAny_bind (wpAny_pure ?_) | skip)
  refine wpAny_bind (wpAny_sequenceKey tu.typeIs (by decide) (wpAny_bind (wpAny_callSpecial?_slot (name := Str.ofString "__getitem__") tu.typeIs PyProof.Rows.slot_tuple_getitem
    (wpAny_call_entry PyProof.Rows.slot_tuple_getitem tu.typeIs entry_tuple_getitem ?_ (args_tuple_getitem _ _)))))
  show wpAny _ _ (Builtin.Tuple.tupleItemsOf (.ref t) >>= _) _ _ z
  refine wpAny_bind (tupleItemsOf_ tu (wpAny_bind (wpAny_typeOf hT ?_)))
  rw [if_pos (by decide)]
  refine wpAny_bind (applied_back hs pl pu ps ?_)
  have no : ¬ ((((items.size : Int) - 1 == 0) && ((-1 : Int) == 1) && (items.size == items.size)) = true) := by simp
  show wpAny _ _ (if (((items.size : Int) - 1 == 0) && ((-1 : Int) == 1) && (items.size == items.size)) = true then _ else _) _ _ z
  rw [if_neg no, pick_back]
  first
    | exact wpAny_bind (m := Builtin.Tuple.tupleExact _) (wpAny_newObj_type (wpAny_pure ⟨_, rfl, wpAny_pure fin⟩) fits)
    | exact wpAny_bind (m := Builtin.Tuple.tupleExact _) (wpAny_newObj_type (wpAny_bind (wpAny_pure (wpAny_pure ⟨_, rfl, wpAny_pure fin⟩))) fits)
    | exact wpAny_bind (wpAny_bind (m := Builtin.Tuple.tupleExact _) (wpAny_newObj_type (wpAny_pure (wpAny_pure ⟨_, rfl, wpAny_pure fin⟩)) fits))
    | exact wpAny_bind (wpAny_bind (m := Builtin.Tuple.tupleExact _) (wpAny_newObj_type (wpAny_pure ⟨_, rfl, wpAny_pure fin⟩) fits))
end
def tRevT (K : PySem.W.Frag) (te : TE) : TE := fun σ H Q => te σ H fun x H1 => ∃ a xs, x = .ref a ∧ SqT K H1 a xs ∧ ∀ p, H1 p = none → Q (.ref p) (upd H1 p (.tup xs.reverse))
/-- t[::-1] -/
theorem pe_revT {X : Cx} {e : Expr} {te : TE} {k : Nat} {p1 p2 p3 pos : Pos} (he : PE X e te) : PE X (.Subscript e (.Slice none none (some (.UnaryOp .USub (.Constant (.int 1) k p1) p2)) p3) pos) (tRevT X.K te) := by
  refine ⟨fun pins s σ H Q I h => Subscript_ (thn (he.run pins s σ H _ I h) fun v s1 ⟨x, H1, I1, r1, a, xs, ex, hx, q⟩ => ?_)⟩
  subst ex
  cases r1
  have back : PO X (some (.UnaryOp .USub (.Constant (.int 1) k p1) p2)) (tPart (tUn (rU fun i => .int (-i)) (tC (.int 1)))) := po_some (pe_un un_neg pe_int)
  refine wpAny_Slice (thn (po_none.run pins s1 σ H1 (fun o H2 => o = none ∧ H2 = H1) I1 ⟨rfl, rfl⟩) fun vl s2 ⟨o2, H2, I2, pl, e2, g2⟩ => thn (po_none.run pins s2 σ H2 (fun o H3 => o = none ∧ H3 = H2) I2 ⟨rfl, rfl⟩) fun vu s3 ⟨o3, H3, I3, pu, e3, g3⟩ =>
    thn (back.run pins s3 σ H3 (fun o H4 => o = some (-1) ∧ H4 = H3) I3 ⟨1, rfl, -1, rfl, rfl, rfl⟩) fun vs s4 ⟨o4, H4, I4, ps, e4, g4⟩ => ?_)
  subst e2 g2 e3 g3 e4 g4
  have I5 : Inv X pins σ H4 { s4 with heap := s4.heap.push { cls := .type "slice", data := .fields #[vl, vu, vs] } } := I4.kept (t' := s4.toks) fun b ob q => Heap.get?_push_of_some _ q
  obtain ⟨its, r, ht, hz⟩ := I5.tuple hx
  have hlen := r.length
  show wpAny (model X.prog X.w) X.A (subscriptTail e (.Slice none none (some (.UnaryOp .USub (.Constant (.int 1) k p1) p2)) p3) (.ref a) (.ref s4.heap.objs.size)) (EP X pins σ Q) X.xe { s4 with heap := s4.heap.push { cls := .type "slice", data := .fields #[vl, vu, vs] } }
  refine tail_any (ops := [.ref a, .ref s4.heap.objs.size]) ht.typeIs (PyProof.Rows.slot_tuple_getitem.lookup) ?_ (by with_unfolding_all rfl)
  refine item_back ht (Heap.IsSliceOf.new _ vl vu vs) pl pu ps ?_ (by rw [List.size_toArray]; omega)
  refine ⟨.ref _, _, I5.laid (t' := s4.toks) (o := .tup xs.reverse) (fun b ob q => Heap.get?_push_of_some _ q) (Nat.le_refl _) ?_, rfl, q _ (I5.hok.fresh (Nat.le_refl _))⟩
  exact ⟨by rw [List.length_reverse]; exact hz, _, r.reverse, IsTup.new _ _⟩
end Rip

/-! What stands through the law's turns: all but the bag's two lists and the tables of lambdas. -/
namespace Rip
open PySem PySem.Spec PyProof.Rows L2
def Kp (b g : Addr) (H H' : Hp) : Prop := ∀ c o, H c = some o → c ≠ b → c ≠ g → (∀ ps, o ≠ .tbl ps) → H' c = some o
theorem Kp.refl (b g : Addr) (H : Hp) : Kp b g H H := fun _ _ h _ _ _ => h
theorem Kp.trans {b g : Addr} {H H1 H2 : Hp} (x : Kp b g H H1) (y : Kp b g H1 H2) : Kp b g H H2 := fun c o h n m t => y c o (x c o h n m t) n m t
theorem Kp.same {b g : Addr} {H H' : Hp} (s : Same H H') : Kp b g H H' := fun c o h _ _ _ => s c o h
theorem Kp.sameB {b g : Addr} {H H' : Hp} (s : SameB b g H H') : Kp b g H H' := fun c o h n m _ => s c o h n m
theorem Kp.ext {b g : Addr} {H H' : Hp} (e : LamX.ExtN H H') : Kp b g H H' := fun c o h _ _ t => e c o h t
theorem Kp.put {b g p : Addr} {H H' : Hp} {o : HO} (k : Kp b g H H') (n : H p = none) : Kp b g H (upd H' p o) := fun c u h h1 h2 t => by
  rw [upd_ne (ne_of_none h n)]
  exact k c u h h1 h2 t
theorem BagAt.ext {H H' : Hp} {b g : Addr} (h : BagAt H b g) (e : LamX.ExtN H H') : BagAt H' b g := by
  obtain ⟨s, c, al, hb, ha⟩ := h.ob
  obtain ⟨gs, hg⟩ := h.gr
  exact ⟨⟨s, c, al, e _ _ hb (fun ps z => by cases z), ha⟩, gs, e _ _ hg (fun ps z => by cases z)⟩
theorem BagAt.off {H : Hp} {b g a : Addr} {o : HO} (h : BagAt H b g) (e : H a = some o) (n : ∀ xs, o ≠ .lst xs) : a ≠ b ∧ a ≠ g := by
  obtain ⟨s, c, al, hb, ha⟩ := h.ob
  obtain ⟨gs, hg⟩ := h.gr
  exact ⟨ne_of e hb (n _), ne_of e hg (n _)⟩
theorem seqT_kp {K : PySem.W.Frag} {H H' : Hp} {b g a : Addr} {xs : List V} (B : BagAt H b g) (k : Kp b g H H') (h : SqT K H a xs) : SqT K H' a xs := by
  unfold SqT at *
  rcases h with (h | ⟨u, h⟩) | h
  · have z := B.off h (fun xs e => by cases e)
    exact .inl (.inl (k _ _ h z.1 z.2 fun ps e => by cases e))
  · have z := B.off h (fun xs e => by cases e)
    exact .inl (.inr ⟨u, k _ _ h z.1 z.2 fun ps e => by cases e⟩)
  · exact .inr h
theorem PairsAt.kp {K : PySem.W.Frag} {H H' : Hp} {b g a : Addr} {ns : List (Nat × Nat)} (B : BagAt H b g) (k : Kp b g H H') (h : PairsAt K H a ns) : PairsAt K H' a ns := by
  obtain ⟨rs, h1, h2, h3⟩ := h
  exact ⟨rs, seqT_kp B k h1, h2, fun i r p x y => seqT_kp B k (h3 i r p x y)⟩
theorem BookAt.kp {K : PySem.W.Frag} {C : Addr} {H H' : Hp} {b g p : Addr} {bl : List Nat} {ns : List (Nat × Nat)} {f : List Nat} (B : BagAt H b g) (k : Kp b g H H') (h : BookAt K C H p bl ns f) : BookAt K C H' p bl ns f := by
  obtain ⟨dx, x, a, t, h1, h2, h3, h4⟩ := h.ob
  have z := B.off h1 (fun xs e => by cases e)
  exact ⟨⟨dx, x, a, t, k _ _ h1 z.1 z.2 (fun ps e => by cases e), seqT_kp B k h2, h3.kp B k, seqT_kp B k h4⟩, h.fars⟩
theorem tabs_same {T : List (Addr × Str)} {H H' : Hp} (t : LamX.Tabs T H) (s : Same H H') : LamX.Tabs T H' := t.ext s
theorem tabs_sameB {T : List (Addr × Str)} {H H' : Hp} {b g : Addr} (B : BagAt H b g) (t : LamX.Tabs T H) (s : SameB b g H H') : LamX.Tabs T H' := fun p hp => by
  obtain ⟨ps, h1, h2, h3⟩ := t p hp
  have z := B.off h1 (fun xs e => by cases e)
  refine ⟨ps, s _ _ h1 z.1 z.2, h2, fun pos cv hc => ?_⟩
  obtain ⟨c, e1, e2⟩ := h3 pos cv hc
  have z2 := B.off e2 (fun xs e => by unfold LamX.CodeO at e; cases e)
  exact ⟨c, e1, s _ _ e2 z2.1 z2.2⟩
/-! ### the things that are picked -/
def scal : V → Bool
  | .non => true | .bl _ => true | .int _ => true | .str _ => true
  | _ => false
inductive Thing (K : PySem.W.Frag) (C b g : Addr) (H : Hp) : V → Prop
  | sc {v : V} (h : scal v = true) : Thing K C b g H v
  | lst {a : Addr} {xs : List V} (h : H a = some (.lst xs)) (h1 : a ≠ b) (h2 : a ≠ g) : Thing K C b g H (.ref a)
  | dct {a : Addr} {kvs : List (Key × V)} (h : H a = some (.dK kvs)) : Thing K C b g H (.ref a)
  | tup {a : Addr} {xs : List V} (h : SqT K H a xs) (hx : ∀ x ∈ xs, scal x = true) (hl : xs.length ≤ 900000) : Thing K C b g H (.ref a)
  | ins {a dx : Addr} {fs : List (Str × V)} (h : H a = some (.ins C dx fs)) : Thing K C b g H (.ref a)
theorem Thing.kp {K : PySem.W.Frag} {C b g : Addr} {H H' : Hp} {v : V} (t : Thing K C b g H v) (B : BagAt H b g) (k : Kp b g H H') : Thing K C b g H' v := by
  cases t with
  | sc h => exact .sc h
  | lst h h1 h2 => exact .lst (k _ _ h h1 h2 fun ps e => by cases e) h1 h2
  | dct h => exact .dct (k _ _ h (B.off h fun xs e => by cases e).1 (B.off h fun xs e => by cases e).2 fun ps e => by cases e)
  | tup h hx hl => exact .tup (seqT_kp B k h) hx hl
  | ins h => exact .ins (k _ _ h (B.off h fun xs e => by cases e).1 (B.off h fun xs e => by cases e).2 fun ps e => by cases e)
/-- what isinstance says of a book -/
structure BkI (K : PySem.W.Frag) (C : Addr) : Prop where
  ty : ∀ (H : Hp) (a dx : Addr) (fs : List (Str × V)), H a = some (.ins C dx fs) → TyX K H (.ref a) (.ref C)
  i : PySem.W.kitOne K (.ref C) (.type "int") = some false
  b : PySem.W.kitOne K (.ref C) (.type "bool") = some false
  t : PySem.W.kitOne K (.ref C) (.type "tuple") = some false
theorem scal_ob {K : PySem.W.Frag} {H : Hp} {v : V} (h : scal v = true) : Ob K H v := by
  cases v with
  | non => exact ob_non
  | bl x => exact ob_bl x
  | int i => exact ob_int i
  | str x => exact ob_str x
  | _ => cases h
theorem scal_obt {K : PySem.W.Frag} {H : Hp} {v : V} (h : scal v = true) : ObT K H v false := by
  cases v with
  | non => exact ⟨_, .base .non, kit_ty (show kitB "NoneType" "tuple" = some false by decide +kernel)⟩
  | bl x => exact ⟨_, .base (.bl x), kit_ty (show kitB "bool" "tuple" = some false by decide +kernel)⟩
  | int i => exact ⟨_, .base (.int i), kit_ty (show kitB "int" "tuple" = some false by decide +kernel)⟩
  | str x => exact ⟨_, .base (.str x), kit_ty (show kitB "str" "tuple" = some false by decide +kernel)⟩
  | _ => cases h
theorem Thing.ob {K : PySem.W.Frag} {C b g : Addr} {H : Hp} {v : V} (t : Thing K C b g H v) (I : BkI K C) : Ob K H v := by
  cases t with
  | sc h => exact scal_ob h
  | lst h => exact ob_lst h
  | dct h => exact ob_dct h
  | tup h => exact ⟨_, tyx_tup h, kit_ty (show kitB "tuple" "int" = some false by decide +kernel), kit_ty (show kitB "tuple" "bool" = some false by decide +kernel)⟩
  | ins h => exact ⟨_, I.ty _ _ _ _ h, I.i, I.b⟩
/-- a tuple of plain things, or no tuple -/
theorem Thing.obt {K : PySem.W.Frag} {C b g : Addr} {H : Hp} {v : V} (t : Thing K C b g H v) (I : BkI K C) : ObT K H v false ∨ (ObT K H v true ∧ ∃ a xs, v = .ref a ∧ SqT K H a xs ∧ (∀ x ∈ xs, scal x = true) ∧ xs.length ≤ 900000) := by
  cases t with
  | sc h => exact .inl (scal_obt h)
  | lst h => exact .inl ⟨_, .base (.lst h), kit_ty (show kitB "list" "tuple" = some false by decide +kernel)⟩
  | dct h => exact .inl ⟨_, .base (.dK h), kit_ty (show kitB "dict" "tuple" = some false by decide +kernel)⟩
  | tup h hx hl => exact .inr ⟨⟨_, tyx_tup h, kit_ty (by decide +kernel)⟩, _, _, rfl, h, hx, hl⟩
  | ins h => exact .inl ⟨_, I.ty _ _ _ _ h, I.t⟩
/-! ### a def whose code is known -/
theorem Fun.okC {P : Program} {w : World} {K : PySem.W.Frag} {mg : Str → Option Value} {base : Heap} {x qual : Str} {st : Stmt} {f : Addr} {fd : FuncData} {N ps : List Str} {k : Nat} {sp : Sp} {cv : Value} (F : Fun K x qual st f fd) (hc : fd.code = cv) (S : FnScope N ps (defScope st))
    (len : ∀ vs H Q E, sp vs H Q E → vs.length = ps.length)
    (body : ∀ (A : Around) (outer : List Env) (s : Shared) (H : Hp) (vs : List V) (Q : VK) (E : XK), Room k (A.deeper (envOfC qual (defScope st) s.heap.objs.size f cv)) → sp vs H Q E →
      ∃ t, PSs (cxOf CX0 P w K mg base N qual (defScope st) f cv A outer s H E).nox (defBody st) t ∧ t { nx := fun _ H' => Q .non H', rt := Q } (L2.start N vs) H) : FnOk P w K mg base CX0 (k + 1) f fd ps sp := by
  obtain ⟨oc, od, kV, doc, pm, an, cdv, ct, osl, rfl, lk, hcd⟩ := F.ex
  have e : cdv = cv := hc
  subst e
  exact fn_of lk hcd S len fun A outer s H vs Q E hr hsp => by
    obtain ⟨t, h1, h2⟩ := body A outer s H vs Q E hr hsp
    exact ⟨t, h1.nox, h2⟩
end Rip

/-! Words of lambdas within the law. -/
namespace Rip
open PySem PySem.Spec PyProof.Rows L2
abbrev s_law : Stmt := top 40
/-- the table of the law's lambdas, and their name -/
abbrev lamQ : Str := (envOfC "law" (defScope s_law) 0 0 .none).qual ++ "<lambda>"
abbrev LT (Pt : Addr) : List (Addr × Str) := [(Pt, lamQ)]
theorem lt_mem (Pt : Addr) : (Pt, lamQ) ∈ LT Pt := List.mem_singleton.mpr rfl
theorem lt_one (Pt : Addr) : ∀ p ∈ LT Pt, p.1 = Pt → p.2 = lamQ := fun p hp _ => by rw [List.mem_singleton.mp hp]
structure Stp (b g Pt : Addr) (H H' : Hp) : Prop where
  kp : Kp b g H H'
  bag : BagAt H' b g
  tabs : LamX.Tabs (LT Pt) H'
theorem Stp.refl {b g Pt : Addr} {H : Hp} (B : BagAt H b g) (t : LamX.Tabs (LT Pt) H) : Stp b g Pt H H := ⟨Kp.refl _ _ _, B, t⟩
theorem Stp.same {b g Pt : Addr} {H H1 H2 : Hp} (s : Stp b g Pt H H1) (x : Same H1 H2) : Stp b g Pt H H2 := ⟨s.kp.trans (Kp.same x), s.bag.same x, tabs_same s.tabs x⟩
theorem Stp.sameB {b g Pt : Addr} {H H1 H2 : Hp} (s : Stp b g Pt H H1) (x : SameB b g H1 H2) (B : BagAt H2 b g) : Stp b g Pt H H2 := ⟨s.kp.trans (Kp.sameB x), B, tabs_sameB s.bag s.tabs x⟩
theorem Stp.ext {b g Pt : Addr} {H H1 H2 : Hp} (s : Stp b g Pt H H1) (x : LamX.ExtN H1 H2) (t : LamX.Tabs (LT Pt) H2) : Stp b g Pt H H2 := ⟨s.kp.trans (Kp.ext x), s.bag.ext x, t⟩
theorem Stp.trans {b g Pt : Addr} {H H1 H2 : Hp} (s : Stp b g Pt H H1) (x : Stp b g Pt H1 H2) : Stp b g Pt H H2 := ⟨s.kp.trans x.kp, x.bag, x.tabs⟩
theorem ite_join2 {b : Bool} {C : L2.St → Hp → Prop} {σ1 σ2 : L2.St} {H : Hp} (Iv : L2.St → Hp → Prop) (h1 : b = true → Iv σ1 H) (h2 : b = false → Iv σ2 H) (hC : ∀ σ H, Iv σ H → C σ H) : if b = true then C σ1 H else C σ2 H := by
  cases b with
  | true => exact hC _ _ (h1 rfl)
  | false => exact hC _ _ (h2 rfl)
/-- name = e: what is known of the value -/
theorem set_join {te : TE} {i : Nat} {u : TS} {D : Ends} {σ : L2.St} {H : Hp} (Pv : V → Hp → Prop) (he : ∀ Q : VK, (∀ v H', Pv v H' → Q v H') → te σ H Q) (hu : ∀ v H', Pv v H' → u D (σ.set i (some v)) H') : tSeq (tAsg te (gName i)) u D σ H := he _ hu
/-- a thing of a list, or one more -/
theorem pick_cat {K : PySem.W.Frag} {C b g Pt : Addr} {tX tY : TE} {σ : L2.St} {H : Hp} {Q : VK} (hb : σ[1]? = some (some (.ref b)))
    (hX : ∀ Q : VK, (∀ q H1 xs, Stp b g Pt H H1 → H1 q = some (.lst xs) → q ≠ b → q ≠ g → xs.length ≤ 100 → (∀ x ∈ xs, Thing K C b g H1 x) → Q (.ref q) H1) → tX σ H Q)
    (hY : ∀ H1, Stp b g Pt H H1 → ∀ Q : VK, (∀ q H2 ys, Stp b g Pt H1 H2 → H2 q = some (.lst ys) → q ≠ b → q ≠ g → 0 < ys.length → ys.length ≤ 100 → (∀ y ∈ ys, Thing K C b g H2 y) → Q (.ref q) H2) → tY σ H1 Q)
    (k : ∀ v H', Stp b g Pt H H' → Thing K C b g H' v → Q v H') :
    tCall spSome [] E0 (tCons (tVar 1) (tCons (tOp rCat tX (tLst (tCons (tCall spSome [] E0 (tCons (tVar 1) (tCons tY tNil))) tNil))) tNil)) σ H Q := by
  have one : 1 ≤ sizeLine := by rw [sizeLine_eq]; decide
  refine ⟨_, hb, hX _ fun q1 H1 xs s1 e1 n1 n2 l1 p1 => ?_⟩
  refine ⟨_, hb, hY H1 s1 _ fun q2 H2 ys s2 e2 n3 n4 l0 l2 p2 => ?_⟩
  refine ⟨b, g, q2, ys, rfl, s2.bag, e2, n3, n4, l0, by omega, fun x H3 hx B3 sb => ⟨one, fun q4 n5 => ?_⟩⟩
  have s3 : Stp b g Pt H1 H3 := s2.sameB sb B3
  have e1' : H3 q1 = some (.lst xs) := s3.kp _ _ e1 n1 n2 fun ps z => by cases z
  have n14 : q1 ≠ q4 := ne_of_none e1' n5
  have s4 : Stp b g Pt H1 (upd H3 q4 (.lst [x])) := s3.same (same_upd n5)
  have e14 : upd H3 q4 (.lst [x]) q1 = some (.lst xs) := by rw [upd_ne n14]; exact e1'
  have e4 : upd H3 q4 (.lst [x]) q4 = some (.lst [x]) := upd_same
  have k4 : Kp b g H2 (upd H3 q4 (.lst [x])) := (Kp.sameB sb).trans (Kp.same (same_upd n5))
  refine ⟨q1, q4, xs, [x], rfl, rfl, e14, e4, by rw [sizeLine_eq]; show xs.length + 1 ≤ _; omega, fun q5 n6 => ?_⟩
  have s5 : Stp b g Pt H1 (upd (upd H3 q4 (.lst [x])) q5 (.lst (xs ++ [x]))) := s4.same (same_upd n6)
  have nb := s4.bag.nb n6
  have k5 := k4.trans (Kp.same (same_upd (o := .lst (xs ++ [x])) n6))
  refine ⟨b, g, q5, xs ++ [x], rfl, s5.bag, upd_same, nb.1, nb.2, by simp, by rw [List.length_append]; show xs.length + 1 < _; omega, fun v H6 hv B6 sb6 => k v H6 ((s1.trans s5).sameB sb6 B6) ?_⟩
  rcases List.mem_append.mp hv with hv | hv
  · exact (p1 v hv).kp s1.bag (s5.kp.trans (Kp.sameB sb6))
  · rw [List.mem_singleton] at hv
    subst hv
    exact (p2 v hx).kp s2.bag (k5.trans (Kp.sameB sb6))
end Rip

namespace Rip
open PySem PySem.Spec PyProof.Rows L2
/-- what comes behind, if the word of the lambda is the due one -/
theorem lam_word {b g Pt CN CL CB : Addr} {t : XK → TE} {te : TE} {r : TS} {D : Ends} {σ : L2.St} {H : Hp} {due : Str} (B : BagAt H b g) (ht : LamX.Tabs (LT Pt) H)
    (hte : ∀ H2, Stp b g Pt H H2 → ∀ Q : VK, (∀ H3, Stp b g Pt H H3 → Q (.str due) H3) → te σ H2 Q)
    (hq : ∀ H1, Stp b g Pt H H1 → ∀ (E : XK) (Q : VK), (due = "let" → ∀ v H', Stp b g Pt H H' → Q v H') → (due = "change" → ∀ H', Stp b g Pt H H' → E (.ref CN) none H') → (due = "lot" → ∀ H', Stp b g Pt H H' → E (.ref CL) none H') → (due = "block" → ∀ H', Stp b g Pt H H' → E (.ref CB) none H') → t E σ H1 Q)
    (hn : ∀ H2, Stp b g Pt H H2 → D.nx σ H2) : tIfS (tTest (tOp rNe (LamX.tLam (LT Pt) (TWord CN CL CB) t) te)) r tNext D σ H := by
  have s0 := Stp.refl B ht
  have fin : ∀ nm : Str, due = nm → ∀ H', Stp b g Pt H H' → te σ H' fun y H2 => rNe (.str nm) y H2 fun x H' => ∃ k, x = .bl k ∧ if k = true then r D σ H' else tNext D σ H' := fun nm e H' s => hte H' s _ fun H3 s3 => by
    subst e
    exact ⟨rfl, _, rfl, by rw [if_neg (by simp)]; exact hn H3 s3⟩
  refine ⟨ht, fun H1 e1 t1 => ?_⟩
  have s1 := s0.ext e1 t1
  refine hq H1 s1 _ _ (fun e v H' s => fin _ e H' s) (fun e H' s => ⟨rfl, .inl ⟨rfl, fun H2 x => fin _ e H2 (s.same x)⟩⟩) (fun e H' s => ⟨rfl, .inr (.inl ⟨rfl, fun H2 x => fin _ e H2 (s.same x)⟩)⟩) (fun e H' s => ⟨rfl, .inr (.inr ⟨rfl, fun H2 x => fin _ e H2 (s.same x)⟩)⟩)
end Rip

/-! The law: its turns. -/
namespace Rip
open PySem PySem.Spec PyProof.Rows L2
abbrev scLwN : List Str := ["_law_script", "_law_bag_here", "_law_turn", "_law_blocks", "_law_needs_here", "_law_book", "_law_many", "_law_odd", "_law_again", "_law_change", "_law_due", "_law_one", "_law_other", "_law_is_one", "_law_lot", "_law_number", "_law_some_here", "_law_thing"]
theorem scLw : FnScope scLwN ["_law_script"] (defScope s_law) := ⟨rfl, rfl, rfl, by decide +kernel, rfl, by decide +kernel, by decide +kernel⟩
theorem below_true {n c : Nat} (h : c < n) : isBelow n (nV c) = true := by
  show decide ((0 : Int) ≤ (c : Int) ∧ (c : Int) < (n : Int)) = true
  exact decide_eq_true (by omega)
theorem at_len {K : PySem.W.Frag} {C : Addr} {H : Hp} {p : Addr} {bl : List Nat} {ns : List (Nat × Nat)} {f : List Nat} {c m : Nat} (h : BookAt K C H p bl ns f) (e : f[c]? = some m) : c < bl.length := by
  rw [← h.fars.len]
  exact (List.getElem?_eq_some_iff.mp e).1
theorem inR_int {a b : Int} {v : V} (h : inR a b v = true) : ∃ i, v = .int i ∧ a ≤ i ∧ i ≤ b := by
  cases v with
  | int i =>
    have h : (decide (a ≤ i) && decide (i ≤ b)) = true := h
    rw [Bool.and_eq_true, decide_eq_true_eq, decide_eq_true_eq] at h
    exact ⟨i, rfl, h.1, h.2⟩
  | _ => cases h
theorem isblk_yes {bl : List Nat} {v : V} (h : inR 0 49 v = true) : isBlk bl v = inV v (bl.map nV) := by
  obtain ⟨i, rfl, h1, _⟩ := inR_int h
  unfold isBlk
  have : isNum (.int i) = true := decide_eq_true h1
  rw [this, Bool.true_and]
theorem isblk_no {bl : List Nat} {v : V} (h50 : ∀ x ∈ bl, x < 50) (h : inR 0 49 v = false) : isBlk bl v = false := by
  cases e : isBlk bl v with
  | false => rfl
  | true =>
    obtain ⟨x, rfl, hx⟩ := isBlk_nat e
    have := h50 x hx
    have z : inR 0 49 (nV x) = true := by
      show (decide ((0 : Int) ≤ (x : Int)) && decide ((x : Int) ≤ 49)) = true
      rw [decide_eq_true (by omega), decide_eq_true (by omega)]
      rfl
    rw [z] at h
    cases h
theorem isblk_nat {bl : List Nat} {v : V} {x : Nat} (e : v = nV x) (h : x ∈ bl) : isBlk bl v = true := by
  subst e
  unfold isBlk
  rw [inV_nat, decide_eq_true h, Bool.and_true]
  show decide ((0 : Int) ≤ (x : Int)) = true
  exact decide_eq_true (Int.natCast_nonneg x)
theorem flat_int {a b : Int} {v : V} (h : inR a b v = true) : flatV v = true := by
  obtain ⟨i, rfl, _⟩ := inR_int h
  rfl
theorem flat_nat (bl : List Nat) : (bl.map nV).all flatV = true := by
  rw [List.all_map]
  exact List.all_eq_true.mpr fun _ _ => rfl
theorem tabs_put {T : List (Addr × Str)} {H : Hp} {D : Addr} {xs : List V} {o : HO} (e : H D = some (.lst xs)) (t : LamX.Tabs T H) : LamX.Tabs T (upd H D o) := fun p hp => by
  obtain ⟨ps, h1, h2, h3⟩ := t p hp
  refine ⟨ps, by rw [upd_ne (ne_of h1 e fun z => by cases z)]; exact h1, h2, fun pos cv hc => ?_⟩
  obtain ⟨c, e1, e2⟩ := h3 pos cv hc
  exact ⟨c, e1, by rw [upd_ne (ne_of e2 e fun z => by unfold LamX.CodeO at z; cases z)]; exact e2⟩
theorem mem_cut {xs : List V} {lo hi : Option Int} {x : V} (h : x ∈ cutV xs lo hi) : x ∈ xs := by
  unfold cutV at h
  exact List.mem_of_mem_drop (List.mem_of_mem_take h)
theorem scal_nat {l : List Nat} {x : V} (h : x ∈ l.map nV) : scal x = true := by
  obtain ⟨c, _, rfl⟩ := List.mem_map.mp h
  rfl
theorem Thing.kind {K : PySem.W.Frag} {C b g : Addr} {H : Hp} {v : V} (t : Thing K C b g H v) (I : BkI K C) (B : BagAt H b g) :
    (∀ H', Kp b g H H' → ObT K H' v false) ∨ ∃ a xs, v = .ref a ∧ SqT K H a xs ∧ (∀ x ∈ xs, scal x = true) ∧ xs.length ≤ 900000 := by
  cases t with
  | sc h => exact .inl fun _ _ => scal_obt h
  | lst h h1 h2 => exact .inl fun H' k => ⟨_, .base (.lst (k _ _ h h1 h2 fun ps e => by cases e)), kit_ty (show kitB "list" "tuple" = some false by decide +kernel)⟩
  | dct h => exact .inl fun H' k => ⟨_, .base (.dK (k _ _ h (B.off h fun xs e => by cases e).1 (B.off h fun xs e => by cases e).2 fun ps e => by cases e)), kit_ty (show kitB "dict" "tuple" = some false by decide +kernel)⟩
  | tup h hx hl => exact .inr ⟨_, _, rfl, h, hx, hl⟩
  | ins h => exact .inl fun H' k => ⟨_, I.ty _ _ _ _ (k _ _ h (B.off h fun xs e => by cases e).1 (B.off h fun xs e => by cases e).2 fun ps e => by cases e), I.t⟩
def spLaw (K : PySem.W.Frag) (Pt : Addr) : Sp := fun vs H Q _ => ∃ (a : Addr) (ns : List Int), vs = [.ref a] ∧ SqL K H a (ns.map V.int) ∧ ns.length ≤ 63 ∧ H Pt = some (.tbl #[]) ∧ ∀ H', Q (.bl true) H'
section
variable {P : Program} {w : World} {K : PySem.W.Frag} {mg : Str → Option Value} {base : Heap}
theorem ok_law {f c Pt C CW CN CL CB fI fC fF fB1 fN fD1 : Addr} {fd fdI fdC fdF fdB1 fdN fdD1 : FuncData} {fB fO fP fR fIi fD fL fW fBe fPa fAb fTo fDa : Addr} {fdB fdO fdP fdR fdIi fdD fdL fdW fdBe fdPa fdAb fdTo fdDa : FuncData}
    (F : Fun K "law" "law" s_law f fd) (hc : fd.code = .ref c) (TB : LamX.TabB base mg c Pt) (B : Blt mg) (W : WordT K mg CW CN CL CB) (I : BkI K C)
    (m : MkB K mg C fI fC fF fB1 fN fD1 fdI fdC fdF fdB1 fdN fdD1)
    (GB : FnOk P w K mg base CX0 1 fB fdB ["_law_script"] (spBag K)) (kB : PySem.W.keepIn K (.ref fB) = true) (bB : Binds K fdB ["_law_script"] []) (gB : mg "_law_bag" = some (.ref fB))
    (GO : FnOk P w K mg base CX0 2 fO fdO ["_law_bag_here", "_law_things"] spSome) (kO : PySem.W.keepIn K (.ref fO) = true) (bO : Binds K fdO ["_law_bag_here", "_law_things"] []) (gO : mg "_law_some" = some (.ref fO))
    (GP : FnOk P w K mg base CX0 1 fP fdP ["_law_bag_here", "_law_many"] spPick) (kP : PySem.W.keepIn K (.ref fP) = true) (bP : Binds K fdP ["_law_bag_here", "_law_many"] []) (gP : mg "_law_pick" = some (.ref fP))
    (GR : FnOk P w K mg base CX0 3 fR fdR ["_law_bag_here", "_law_most", "_law_blocks"] (spParts K)) (kR : PySem.W.keepIn K (.ref fR) = true) (bR : Binds K fdR ["_law_bag_here", "_law_most", "_law_blocks"] []) (gR : mg "_law_parts" = some (.ref fR))
    (GI : FnOk P w K mg base CX0 1 fIi fdIi ["_law_thing", "_law_least", "_law_most"] (spIsInt K)) (kI : PySem.W.keepIn K (.ref fIi) = true) (bI : Binds K fdIi ["_law_thing", "_law_least", "_law_most"] []) (gI : mg "_law_is_int" = some (.ref fIi))
    (GD : FnOk P w K mg base CX0 1 fD fdD [] spDeep) (kD : PySem.W.keepIn K (.ref fD) = true) (bD : Binds K fdD [] []) (gD : mg "_law_deep" = some (.ref fD))
    (GL : FnOk P w K mg base CX0 2 fL fdL ["_law_thing", "_law_many"] (spLawLot K)) (kL : PySem.W.keepIn K (.ref fL) = true) (bL : Binds K fdL ["_law_thing", "_law_many"] []) (gL : mg "_law_is_lot" = some (.ref fL))
    (FW : Fun K "_law_word" "_law_word" s_word fW fdW) (bW : Binds K fdW ["_law_ask"] []) (gW : mg "_law_word" = some (.ref fW))
    (GBe : FnOk P w K mg base (L2.CX P w) 5 fBe fdBe ["book", "change"] (spBeneath K C CN)) (kBe : PySem.W.keepIn K (.ref fBe) = true) (bBe : Binds K fdBe ["book", "change"] []) (gBe : mg "beneath" = some (.ref fBe))
    (GPa : FnOk P w K mg base (L2.CX P w) 9 fPa fdPa ["book", "change"] (spParted K C CN)) (kPa : PySem.W.keepIn K (.ref fPa) = true) (bPa : Binds K fdPa ["book", "change"] []) (gPa : mg "parted" = some (.ref fPa))
    (GAb : FnOk P w K mg base (L2.CX P w) 5 fAb fdAb ["book", "change"] (spAbove K C CN)) (kAb : PySem.W.keepIn K (.ref fAb) = true) (bAb : Binds K fdAb ["book", "change"] []) (gAb : mg "above" = some (.ref fAb))
    (GTo : FnOk P w K mg base (L2.CX P w) 9 fTo fdTo ["book", "one", "other"] (spTog K C CB)) (kTo : PySem.W.keepIn K (.ref fTo) = true) (bTo : Binds K fdTo ["book", "one", "other"] []) (gTo : mg "put_together" = some (.ref fTo))
    (GDa : FnOk P w K mg base (L2.CX P w) 9 fDa fdDa ["book", "lot"] (spDay K C CL)) (kDa : PySem.W.keepIn K (.ref fDa) = true) (bDa : Binds K fdDa ["book", "lot"] []) (gDa : mg "day" = some (.ref fDa)) :
    FnOk P w K mg base CX0 12 f fd ["_law_script"] (spLaw K Pt) := by
  have GN : FnOk P w K mg base CX0 6 fI fdI ["self", "blocks", "needs"] (spInitB K C) := m.init
  have kW := FW.kp
  obtain ⟨oc, od, kV, doc, pm, an, cdw, ct, osl, rfl, lkw, hcw⟩ := FW.ex
  refine Fun.okC F hc scLw (fun vs H Q E h => ?_) (fun A outer s H vs Q E hr h => ?_)
  · obtain ⟨a, ns, rfl, _⟩ := h
    rfl
  · obtain ⟨a, ns, rfl, hS, hlen, hP, q⟩ := h
    refine ⟨_,      (pss_cons (ps_set (i := 1) scLw.nd rfl (.inr rfl) (pe_call GB (hr.mono (by decide)) (by rfl) gB kB bB .nil pass0 (pa_cons (pv 0) pa_nil)))
      (pss_cons (ps_for PassesOwn.never rfl (pi_range1 rfl B.range (pa_cons pe_int pa_nil)) (pg_name (i := 2) scLw.nd rfl (.inl rfl))
        (pss_cons (ps_asg (pe_call GR (hr.mono (by decide)) (by rfl) gR kR bR .nil pass0 (pa_cons (pv 1) (pa_cons pe_int (pa_cons pe_int pa_nil)))) (pg_tup rfl (pgs_cons (pg_name (i := 3) scLw.nd rfl (.inl rfl)) (pgs_cons (pg_name (i := 4) scLw.nd rfl (.inl rfl)) pgs_nil))))
        (pss_cons (ps_asg (pe_tup (pa_cons (pe_make m.M GN (hr.mono (by decide)) (by rfl) m.T.g m.bI .nil pass0 (pa_cons (pv 3) (pa_cons (pv 4) pa_nil))) (pa_cons (pe_callB call_len_seq (by rfl) B.len PySem.boot_len (pa_cons (pv 3) pa_nil)) pa_nil))) (pg_tup rfl (pgs_cons (pg_name (i := 5) scLw.nd rfl (.inr rfl)) (pgs_cons (pg_name (i := 6) scLw.nd rfl (.inl rfl)) pgs_nil))))
        (pss_cons (ps_set (i := 7) scLw.nd rfl (.inl rfl) (pe_lst (pa_cons pe_non (pa_cons pe_bl (pa_cons pe_bl (pa_cons (pe_un un_neg pe_int) (pa_cons (pv 6) (pa_cons pe_int (pa_cons pe_str (pa_cons pe_str (pa_cons (pe_lst pa_nil) (pa_cons pe_dnewK (pa_cons (pe_tup (pa_cons pe_int pa_nil)) (pa_cons (pe_lst (pa_cons pe_int pa_nil)) (pa_cons (pv 5) (pa_cons (pe_call0 GD (hr.mono (by decide)) (by rfl) gD kD bD .nil pass0) (pa_cons (pe_op op_pow pe_int pe_int) pa_nil)))))))))))))))))
        (pss_one (ps_for PassesOwn.never rfl (pi_range1 rfl B.range (pa_cons pe_int pa_nil)) (pg_name (i := 8) scLw.nd rfl (.inl rfl))
          (pss_cons (ps_set (i := 9) scLw.nd rfl (.inr rfl) (pe_call GO (hr.mono (by decide)) (by rfl) gO kO bO .nil pass0 (pa_cons (pv 1) (pa_cons (pe_op op_cat (pe_listRg rfl (by rfl) B.list (prg_1 (by rfl) B.range (pv 6))) (pe_lst (pa_cons (pe_call GO (hr.mono (by decide)) (by rfl) gO kO bO .nil pass0 (pa_cons (pv 1) (pa_cons (pv 7) pa_nil))) pa_nil))) pa_nil))))
          (pss_cons (ps_set (i := 10) scLw.nd rfl (.inl rfl) (pe_ifExp (pt_val (pe_call GI (hr.mono (by decide)) (by rfl) gI kI bI .nil pass0 (pa_cons (pv 9) (pa_cons pe_int (pa_cons (pe_op op_sub (pv 6) pe_int) pa_nil))))) pe_str pe_str))
          (pss_cons (ps_if (pt_cmpR op_ne (LamX.pe_lamcall (T := LT Pt) (TT := TWord CN CL CB) (t := fun E => tCall (spBeneath K C CN) [] E (tCons (tVar 5) (tCons (tVar 9) tNil))) (by rfl) gW kW lkw hcw bW scWd rfl (.inl rfl) (word_gives W) TB rfl (lt_mem Pt) (lt_one Pt) hr (LamX.lamS_by (sc := defScope s_law) (by decide +kernel)) rfl (fun _ _ _ _ _ => rfl)
            (fun A outer s H E f c2 hr2 => pe_call GBe (hr2.mono (by decide)) (by rfl) gBe kBe bBe .nil (passes_call (takes_of rfl rfl rfl rfl) (fun _ _ _ _ h => h)) (pa_cons (pv 5) (pa_cons (pv 9) pa_nil)))) (pv 10) (nomark _)) (pss_one (ps_ret pe_bl)) pss_nil)
          (pss_cons (ps_if (pt_cmpR op_ne (LamX.pe_lamcall (T := LT Pt) (TT := TWord CN CL CB) (t := fun E => tCall (spParted K C CN) [] E (tCons (tVar 5) (tCons (tVar 9) tNil))) (by rfl) gW kW lkw hcw bW scWd rfl (.inl rfl) (word_gives W) TB rfl (lt_mem Pt) (lt_one Pt) hr (LamX.lamS_by (sc := defScope s_law) (by decide +kernel)) rfl (fun _ _ _ _ _ => rfl)
            (fun A outer s H E f c2 hr2 => pe_call GPa (hr2.mono (by decide)) (by rfl) gPa kPa bPa .nil (passes_call (takes_of rfl rfl rfl rfl) (fun _ _ _ _ h => h)) (pa_cons (pv 5) (pa_cons (pv 9) pa_nil)))) (pv 10) (nomark _)) (pss_one (ps_ret pe_bl)) pss_nil)
          (pss_cons (ps_if (pt_cmpR op_ne (LamX.pe_lamcall (T := LT Pt) (TT := TWord CN CL CB) (t := fun E => tCall (spAbove K C CN) [] E (tCons (tVar 5) (tCons (tVar 9) tNil))) (by rfl) gW kW lkw hcw bW scWd rfl (.inl rfl) (word_gives W) TB rfl (lt_mem Pt) (lt_one Pt) hr (LamX.lamS_by (sc := defScope s_law) (by decide +kernel)) rfl (fun _ _ _ _ _ => rfl)
            (fun A outer s H E f c2 hr2 => pe_call GAb (hr2.mono (by decide)) (by rfl) gAb kAb bAb .nil (passes_call (takes_of rfl rfl rfl rfl) (fun _ _ _ _ h => h)) (pa_cons (pv 5) (pa_cons (pv 9) pa_nil)))) (pv 10) (nomark _)) (pss_one (ps_ret pe_bl)) pss_nil)
          (pss_cons (ps_set (i := 11) scLw.nd rfl (.inr rfl) (pe_call GO (hr.mono (by decide)) (by rfl) gO kO bO .nil pass0 (pa_cons (pv 1) (pa_cons (pe_op op_cat (pe_callTy call_list_of (by rfl) B.list PyProof.Rows.boot_list (pa_cons (pv 3) pa_nil)) (pe_lst (pa_cons (pe_call GO (hr.mono (by decide)) (by rfl) gO kO bO .nil pass0 (pa_cons (pv 1) (pa_cons (pe_lst (pa_cons (pe_un un_neg pe_int) (pa_cons pe_int (pa_cons pe_int (pa_cons pe_int (pa_cons pe_non (pa_cons pe_str (pa_cons (pe_tup (pa_cons pe_int pa_nil)) pa_nil)))))))) pa_nil))) pa_nil))) pa_nil))))
          (pss_cons (ps_set (i := 12) scLw.nd rfl (.inr rfl) (pe_call GO (hr.mono (by decide)) (by rfl) gO kO bO .nil pass0 (pa_cons (pv 1) (pa_cons (pe_op op_cat (pe_callTy call_list_of (by rfl) B.list PyProof.Rows.boot_list (pa_cons (pv 3) pa_nil)) (pe_lst (pa_cons (pe_call GO (hr.mono (by decide)) (by rfl) gO kO bO .nil pass0 (pa_cons (pv 1) (pa_cons (pe_lst (pa_cons (pe_un un_neg pe_int) (pa_cons pe_int (pa_cons pe_int (pa_cons pe_int (pa_cons pe_non (pa_cons pe_str (pa_cons (pe_tup (pa_cons pe_int pa_nil)) pa_nil)))))))) pa_nil))) pa_nil))) pa_nil))))
          (pss_cons (ps_set (i := 13) scLw.nd rfl (.inl rfl) (pe_and (pe_call GI (hr.mono (by decide)) (by rfl) gI kI bI .nil pass0 (pa_cons (pv 11) (pa_cons pe_int (pa_cons pe_int pa_nil)))) (pe_one (pe_cmpR op_in_seq (pv 11) (pv 3) (by with_unfolding_all rfl)))))
          (pss_cons (ps_set (i := 10) scLw.nd rfl (.inl rfl) (pe_ifExp (PW.pt (pw_and (pt_val (pv 13)) (pw_and (pt_val (pe_call GI (hr.mono (by decide)) (by rfl) gI kI bI .nil pass0 (pa_cons (pv 12) (pa_cons pe_int (pa_cons pe_int pa_nil))))) (pw_and1 (pt_cmpR op_in_seq (pv 12) (pv 3) (by with_unfolding_all rfl)))))) pe_str pe_str))
          (pss_cons (ps_if (pt_cmpR op_ne (LamX.pe_lamcall (T := LT Pt) (TT := TWord CN CL CB) (t := fun E => tCall (spTog K C CB) [] E (tCons (tVar 5) (tCons (tVar 11) (tCons (tVar 12) tNil)))) (by rfl) gW kW lkw hcw bW scWd rfl (.inl rfl) (word_gives W) TB rfl (lt_mem Pt) (lt_one Pt) hr (LamX.lamS_by (sc := defScope s_law) (by decide +kernel)) rfl (fun _ _ _ _ _ => rfl)
            (fun A outer s H E f c2 hr2 => pe_call GTo (hr2.mono (by decide)) (by rfl) gTo kTo bTo .nil (passes_call (takes_of rfl rfl rfl rfl) (fun _ _ _ _ h => h)) (pa_cons (pv 5) (pa_cons (pv 11) (pa_cons (pv 12) pa_nil))))) (pv 10) (nomark _)) (pss_one (ps_ret pe_bl)) pss_nil)
          (pss_cons (ps_set (i := 14) scLw.nd rfl (.inl rfl) (pe_tupleOf (by rfl) B.tuple (pe_lc (own := [("_law_number", 15)]) (g := gName 15) (tt := tTest (tOp rEq (tCall spPick [] E0 (tCons (tVar 1) (tCons (tC (.int 2)) tNil))) (tC (.int 0)))) rfl scLw.nd (pi_range1 rfl B.range (pa_cons (pv 6) pa_nil)) (blkOk_by (own := [("_law_number", 15)]) (N := scLwN) (sc := defScope s_law) (by decide +kernel)) (fun _ _ _ _ _ => (pg_name (i := 15) scLw.nd rfl (.inl rfl))) (fun _ _ _ _ _ => (pts_one (pt_cmpR op_eq (pe_call GP (hr.mono (by decide)) (by rfl) gP kP bP .nil pass0 (pa_cons (pv 1) (pa_cons pe_int pa_nil))) pe_int (nomark _)))) (fun _ _ _ _ _ => (pv 15)))))
          (pss_cons (ps_set (i := 16) scLw.nd rfl (.inl rfl) (pe_lst (pa_cons (pv 14) (pa_cons (pe_revT (pv 14)) (pa_cons (pe_op op_catA (pv 14) (pe_slice sl_tupA (pv 14) (po_some (pe_un un_neg pe_int)) po_none)) (pa_cons (pe_callTy call_list_of (by rfl) B.list PyProof.Rows.boot_list (pa_cons (pv 14) pa_nil)) (pa_cons (pe_op op_catA (pv 14) (pe_tup (pa_cons (pv 6) pa_nil))) (pa_cons (pe_op op_catA (pe_tup (pa_cons (pe_un un_neg pe_int) pa_nil)) (pv 14)) (pa_cons (pe_op op_catA (pe_slice sl_tupA (pv 14) po_none (po_some (pe_un un_neg pe_int))) (pe_tup (pa_cons pe_bl pa_nil))) pa_nil)))))))))
          (pss_cons (ps_set (i := 17) scLw.nd rfl (.inr rfl) (pe_call GO (hr.mono (by decide)) (by rfl) gO kO bO .nil pass0 (pa_cons (pv 1) (pa_cons (pe_op op_cat (pv 16) (pe_lst (pa_cons (pe_call GO (hr.mono (by decide)) (by rfl) gO kO bO .nil pass0 (pa_cons (pv 1) (pa_cons (pv 7) pa_nil))) pa_nil))) pa_nil))))
          (pss_one (ps_if (pt_cmpR op_ne (LamX.pe_lamcall (T := LT Pt) (TT := TWord CN CL CB) (t := fun E => tCall (spDay K C CL) [] E (tCons (tVar 5) (tCons (tVar 17) tNil))) (by rfl) gW kW lkw hcw bW scWd rfl (.inl rfl) (word_gives W) TB rfl (lt_mem Pt) (lt_one Pt) hr (LamX.lamS_by (sc := defScope s_law) (by decide +kernel)) rfl (fun _ _ _ _ _ => rfl)
            (fun A outer s H E f c2 hr2 => pe_call GDa (hr2.mono (by decide)) (by rfl) gDa kDa bDa .nil (passes_call (takes_of rfl rfl rfl rfl) (fun _ _ _ _ h => h)) (pa_cons (pv 5) (pa_cons (pv 17) pa_nil)))) (pe_ifExp (pt_val (pe_call GL (hr.mono (by decide)) (by rfl) gL kL bL .nil pass0 (pa_cons (pv 17) (pa_cons (pv 6) pa_nil)))) pe_str pe_str) (nomark _)) (pss_one (ps_ret pe_bl)) pss_nil)))))))))))))))))))))
      (pss_one (ps_ret pe_bl)))), ?_⟩
    have one : 1 ≤ sizeLine := by rw [sizeLine_eq]; decide
    have two : 2 ≤ sizeLine := by rw [sizeLine_eq]; decide
    refine ⟨_, rfl, a, ns, rfl, hS, hlen, fun b g H1 s1 nb ng BA => ?_⟩
    have T1 : LamX.Tabs (LT Pt) H1 := fun p hp => by
      rw [List.mem_singleton.mp hp]
      exact LamX.TabS.nil (s1 _ _ hP)
    dsimp only [gName]
    refine st_eq (σ' := [some (.ref a), some (.ref b), none, none, none, none, none, none, none, none, none, none, none, none, none, none, none, none]) rfl ?_
    refine ⟨4, rfl, by decide, by decide, for_range (n := 4) (fun i σ H2 => ∃ z2 z3 z4 z5 z6 z7 z8 z9 z10 z11 z12 z13 z14 z15 z16 z17 : Option V, σ = [some (.ref a), some (.ref b), z2, z3, z4, z5, z6, z7, z8, z9, z10, z11, z12, z13, z14, z15, z16, z17] ∧ Stp b g Pt H1 H2)
      ⟨_, _, _, _, _, _, _, _, _, _, _, _, _, _, _, _, rfl, Stp.refl BA T1⟩ ?_ ?_⟩
    rotate_left
    · rintro σ H2 ⟨z2, z3, z4, z5, z6, z7, z8, z9, z10, z11, z12, z13, z14, z15, z16, z17, rfl, _⟩
      exact q H2
    rintro i σ H2 hi ⟨z2, z3, z4, z5, z6, z7, z8, z9, z10, z11, z12, z13, z14, z15, z16, z17, rfl, st2⟩
    refine ⟨_, rfl, b, g, 6, 3, rfl, st2.bag, by decide, by decide, by decide, fun T mt na bl ns2 H3 BA3 sb3 nT eT emt PA R no ll => ?_⟩
    have st3 := st2.sameB sb3 BA3
    refine ⟨T, _, rfl, .inl (.inl eT), rfl, _, _, rfl, _, [], rfl, rfl, ?_⟩
    refine st_eq (σ' := [some (.ref a), some (.ref b), some (.int (0 + (i : Int))), some (.ref mt), some (.ref na), z5, z6, z7, z8, z9, z10, z11, z12, z13, z14, z15, z16, z17]) rfl ?_
    have hmt : SqT K H3 mt (bl.map nV) := .inl (.inl emt)
    refine ⟨_, rfl, _, rfl, fun p dx np ndx pdx => ?_⟩
    have s3 : Same H3 (upd (upd H3 dx (.own p)) p (.ins C dx [])) := (same_upd ndx).trans (same_upd (by rw [upd_ne pdx.symm]; exact np))
    have hp3 : upd (upd H3 dx (.own p)) p (.ins C dx []) p = some (.ins C dx []) := upd_same
    generalize upd (upd H3 dx (.own p)) p (.ins C dx []) = H4 at s3 hp3 ⊢
    refine ⟨p, dx, mt, na, bl, ns2, rfl, hp3, same_seqT s3 hmt, PA.same s3, R, fun c _ => no c, fun fs H5 hk ex => ⟨rfl, ?_⟩⟩
    have s35 : Same H3 H5 := fun c o h => ex c o (s3 c o h) (ne_of_none h np)
    have st5 := st3.same s35
    refine ⟨_, rfl, mt, _, rfl, .inr (same_seqT s35 hmt), two, fun tp ntp => ?_⟩
    refine ⟨tp, _, rfl, .inl (.inl upd_same), rfl, _, _, rfl, _, [], rfl, rfl, ?_⟩
    refine st_eq (σ' := [some (.ref a), some (.ref b), some (.int (0 + (i : Int))), some (.ref mt), some (.ref na), some (.ref p), some (nV bl.length), z7, z8, z9, z10, z11, z12, z13, z14, z15, z16, z17]) (by rw [List.length_map]; rfl) ?_
    have s6 : Same H5 (upd H5 tp (.tup [.ref p, .int ((bl.map nV).length : Nat)])) := same_upd ntp
    have st6 := st5.same s6
    have hk6 := hk.same s6
    have hm6 := same_seqT (s35.trans s6) hmt
    generalize upd H5 tp (.tup [.ref p, .int ((bl.map nV).length : Nat)]) = H6 at st6 hk6 hm6 ⊢
    have hn6 : bl.length ≤ 6 := ll
    have ft : Fit bl ns2 := ⟨asc_nodup R.asc, fun z hz => ⟨(R.inn z hz).1, (R.inn z hz).2.1⟩, by omega, by have := R.nfew; omega⟩
    -- odd things
    try dsimp only
    refine set_join (fun v H' => ∃ od ovs, v = .ref od ∧ Stp b g Pt H6 H' ∧ H' od = some (.lst ovs) ∧ od ≠ b ∧ od ≠ g ∧ ovs.length = 15 ∧ ∀ x ∈ ovs, Thing K C b g H' x) (fun Q1 kq => ?_) ?_
    · have Bs := st6.bag
      refine ⟨_, rfl, _, rfl, Nat.zero_le _, fun o1 n1 => ?_⟩
      have u1 := Bs.nb n1
      have x1 : Same H6 (upd H6 o1 (.lst [])) := same_upd n1
      have f1 : upd H6 o1 (.lst []) o1 = some (.lst []) := upd_same
      generalize upd H6 o1 (.lst []) = Ha at x1 f1 ⊢
      refine fun d1 n2 => ⟨one, fun t1 n3 => ?_⟩
      have x2 : Same Ha (upd Ha d1 (.dK [])) := same_upd n2
      have f2 : upd Ha d1 (.dK []) d1 = some (.dK []) := upd_same
      generalize upd Ha d1 (.dK []) = Hb at x2 f2 n3 ⊢
      have x3 : Same Hb (upd Hb t1 (.tup [.int 0])) := same_upd n3
      have f3 : upd Hb t1 (.tup [.int 0]) t1 = some (.tup [.int 0]) := upd_same
      generalize upd Hb t1 (.tup [.int 0]) = Hc at x3 f3 ⊢
      refine ⟨one, fun l1 n4 => ?_⟩
      have x4 : Same Hc (upd Hc l1 (.lst [.int 0])) := same_upd n4
      have f4 : upd Hc l1 (.lst [.int 0]) l1 = some (.lst [.int 0]) := upd_same
      generalize upd Hc l1 (.lst [.int 0]) = Hd at x4 f4 ⊢
      refine ⟨_, rfl, rfl, fun l2 xs2 He x5 n5 f5 => ⟨_, _, rfl, rfl, ⟨by decide, by decide, by decide⟩, by rw [sizeLine_eq]; show 15 ≤ 16777216; decide, fun od nod => kq _ _ ⟨od, _, rfl, ?_, upd_same, ?_, ?_, rfl, ?_⟩⟩⟩
      · exact ⟨Kp.same (((((x1.trans x2).trans x3).trans x4).trans x5).trans (same_upd nod)), (((((Bs.same x1).same x2).same x3).same x4).same x5).same (same_upd nod), tabs_same st6.tabs (((((x1.trans x2).trans x3).trans x4).trans x5).trans (same_upd nod))⟩
      · exact (((((Bs.same x1).same x2).same x3).same x4).same x5).nb nod |>.1
      · exact (((((Bs.same x1).same x2).same x3).same x4).same x5).nb nod |>.2
      · have x6 : Same He (upd He od (.lst [.non, .bl true, .bl false, .int (-1), nV bl.length, .int 50, .str "0", .str "", .ref o1, .ref d1, .ref t1, .ref l1, .ref p, .ref l2, .int (10 ^ (29 : Int).toNat)])) := same_upd nod
        have y5 := x5.trans x6
        have y4 := x4.trans y5
        have y3 := x3.trans y4
        have y2 := x2.trans y3
        have u4 := (((Bs.same x1).same x2).same x3).nb n4
        have u5 := ((((Bs.same x1).same x2).same x3).same x4).nb n5
        obtain ⟨dxb, b1, a1, t1b, hpb, _⟩ := (hk6.same (x1.trans y2)).ob
        exact List.forall_mem_cons.mpr ⟨.sc rfl, List.forall_mem_cons.mpr ⟨.sc rfl, List.forall_mem_cons.mpr ⟨.sc rfl, List.forall_mem_cons.mpr ⟨.sc rfl, List.forall_mem_cons.mpr ⟨.sc rfl, List.forall_mem_cons.mpr ⟨.sc rfl, List.forall_mem_cons.mpr ⟨.sc rfl, List.forall_mem_cons.mpr ⟨.sc rfl,
          List.forall_mem_cons.mpr ⟨.lst (y2 _ _ f1) u1.1 u1.2, List.forall_mem_cons.mpr ⟨.dct (y3 _ _ f2), List.forall_mem_cons.mpr ⟨.tup (.inl (.inl (y4 _ _ f3))) (fun x hx => by rw [List.mem_singleton.mp hx]; rfl) (by decide), List.forall_mem_cons.mpr ⟨.lst (y5 _ _ f4) u4.1 u4.2, List.forall_mem_cons.mpr ⟨.ins hpb,
          List.forall_mem_cons.mpr ⟨.lst (x6 _ _ f5) u5.1 u5.2, List.forall_mem_cons.mpr ⟨.sc rfl, fun x hx => nomatch hx⟩⟩⟩⟩⟩⟩⟩⟩⟩⟩⟩⟩⟩⟩⟩
    rintro v H7 ⟨od, ovs, rfl, st7, eo, o1, o2, ol, ot⟩
    refine st_eq (σ' := [some (.ref a), some (.ref b), some (.int (0 + (i : Int))), some (.ref mt), some (.ref na), some (.ref p), some (nV bl.length), some (.ref od), z8, z9, z10, z11, z12, z13, z14, z15, z16, z17]) rfl ?_
    have B6 := st6.bag
    have hk7 := hk6.kp B6 st7.kp
    have hm7 := seqT_kp B6 st7.kp hm6
    have B7 := st7.bag
    refine ⟨4, rfl, by decide, by decide, for_range (n := 4) (fun j σ H8 => ∃ y8 y9 y10 y11 y12 y13 y14 y15 y16 y17 : Option V, σ = [some (.ref a), some (.ref b), some (.int (0 + (i : Int))), some (.ref mt), some (.ref na), some (.ref p), some (nV bl.length), some (.ref od), y8, y9, y10, y11, y12, y13, y14, y15, y16, y17] ∧ Stp b g Pt H7 H8)
      ⟨_, _, _, _, _, _, _, _, _, _, rfl, Stp.refl B7 st7.tabs⟩ ?_ ?_⟩
    rotate_left
    · rintro σ H8 ⟨y8, y9, y10, y11, y12, y13, y14, y15, y16, y17, rfl, st8⟩
      exact ⟨_, _, _, _, _, _, _, _, _, _, _, _, _, _, _, _, rfl, (st6.trans st7).trans st8⟩
    rintro j σ H8 hj ⟨y8, y9, y10, y11, y12, y13, y14, y15, y16, y17, rfl, st8⟩
    have B8 := st8.bag
    have hk8 := hk7.kp B7 st8.kp
    have hm8 := seqT_kp B7 st8.kp hm7
    have eo8 := st8.kp _ _ eo o1 o2 fun ps z => by cases z
    have ot8 := fun x hx => (ot x hx).kp B7 st8.kp
    dsimp only [gName]
    refine st_eq (σ' := [some (.ref a), some (.ref b), some (.int (0 + (i : Int))), some (.ref mt), some (.ref na), some (.ref p), some (nV bl.length), some (.ref od), some (.int (0 + (j : Int))), y9, y10, y11, y12, y13, y14, y15, y16, y17]) rfl ?_
    -- the change
    try dsimp only
    refine set_join (fun v H' => Stp b g Pt H8 H' ∧ Thing K C b g H' v) (fun Q1 kq => ?_) ?_
    · refine pick_cat (K := K) (C := C) (b := b) (g := g) (Pt := Pt) rfl (fun Q2 k2 => ?_) (fun H9 st9 Q2 k2 => ?_) fun v H' s t => kq v H' ⟨s, t⟩
      · refine ⟨_, rfl, (bl.length : Int), rfl, RgOk.of_le (by omega) (by omega) (by omega) (by omega), fun q1 nq => ?_⟩
        rw [rgV_nat]
        exact k2 q1 _ _ ((Stp.refl B8 st8.tabs).same (same_upd nq)) upd_same (B8.nb nq).1 (B8.nb nq).2 (by rw [List.length_map, List.length_range]; omega) (fun x hx => by
          obtain ⟨c, _, rfl⟩ := List.mem_map.mp hx
          exact .sc rfl)
      · exact ⟨_, rfl, k2 od H9 ovs (Stp.refl st9.bag st9.tabs) (st9.kp _ _ eo8 o1 o2 fun ps z => by cases z) o1 o2 (by omega) (by omega) (fun y hy => (ot8 y hy).kp B8 st9.kp)⟩
    rintro v H9 ⟨st9, tv⟩
    have B9 := st9.bag
    have hk9 := hk8.kp B8 st9.kp
    refine st_eq (σ' := [some (.ref a), some (.ref b), some (.int (0 + (i : Int))), some (.ref mt), some (.ref na), some (.ref p), some (nV bl.length), some (.ref od), some (.int (0 + (j : Int))), some v, y10, y11, y12, y13, y14, y15, y16, y17]) rfl ?_
    try dsimp only
    refine set_join (fun u H' => u = .str (if isBelow bl.length v = true then "let" else "change") ∧ H9 = H') (fun Q1 kq => ?_) ?_
    · refine ⟨_, rfl, _, rfl, _, _, rfl, rfl, v, 0, (bl.length : Int) - 1, rfl, tv.ob I, _, rfl, ?_⟩
      rw [inR_below]
      cases e : isBelow bl.length v with
      | true => exact iteT (kq _ _ ⟨by rw [e]; rfl, rfl⟩)
      | false => exact iteF (kq _ _ ⟨by rw [e]; rfl, rfl⟩)
    rintro _ _ ⟨rfl, rfl⟩
    generalize ed : (if isBelow bl.length v = true then ("let" : Str) else "change") = due
    have dl : isBelow bl.length v = true → due = "let" := fun e => by rw [← ed, if_pos e]
    have dc : isBelow bl.length v = false → due = "change" := fun e => by rw [← ed, e]; rfl
    refine st_eq (σ' := [some (.ref a), some (.ref b), some (.int (0 + (i : Int))), some (.ref mt), some (.ref na), some (.ref p), some (nV bl.length), some (.ref od), some (.int (0 + (j : Int))), some v, some (.str due), y11, y12, y13, y14, y15, y16, y17]) rfl ?_
    try dsimp only
    refine lam_word (due := due) B9 st9.tabs (fun H2 s2 Q1 k1 => ⟨_, rfl, k1 H2 s2⟩) (fun Ha sa E1 Q1 kl kc _ _ => ?_) fun Hb sb => ?_
    · exact ⟨_, rfl, _, rfl, p, v, bl, ns2, fs, rfl, hk9.kp B9 sa.kp, by omega, ft.inn, (tv.kp B9 sa.kp).ob I, fun e => kc (dc e) Ha sa, fun c1 m1 ev hm1 t1 H' x nt ht => kl (dl (by rw [ev]; exact below_true (at_len hk9 hm1))) _ H' (sa.same x)⟩
    have Bb := sb.bag
    have hkb := hk9.kp B9 sb.kp
    have tvb := tv.kp B9 sb.kp
    try dsimp only
    refine lam_word (due := due) Bb sb.tabs (fun H2 s2 Q1 k1 => ⟨_, rfl, k1 H2 s2⟩) (fun Ha sa E1 Q1 kl kc _ _ => ?_) fun Hc sc => ?_
    · exact ⟨_, rfl, _, rfl, p, v, bl, ns2, fs, rfl, hkb.kp Bb sa.kp, ft, (tvb.kp Bb sa.kp).ob I, fun e => kc (dc e) Ha sa, fun c1 fr ev hc1 _ _ q1 H' f1 x nt _ => kl (dl (by rw [ev]; exact below_true hc1)) _ H' (sa.same x)⟩
    have Bc := sc.bag
    have hkc := hkb.kp Bb sc.kp
    have tvc := tvb.kp Bb sc.kp
    try dsimp only
    refine lam_word (due := due) Bc sc.tabs (fun H2 s2 Q1 k1 => ⟨_, rfl, k1 H2 s2⟩) (fun Ha sa E1 Q1 kl kc _ _ => ?_) fun Hd sd => ?_
    · exact ⟨_, rfl, _, rfl, p, v, bl, ns2, fs, rfl, hkc.kp Bc sa.kp, by omega, (tvc.kp Bc sa.kp).ob I, fun e => kc (dc e) Ha sa, fun c1 ev hc1 t1 H' x nt _ => kl (dl (by rw [ev]; exact below_true hc1)) _ H' (sa.same x)⟩
    have Bd := sd.bag
    have hkd := hkc.kp Bc sd.kp
    have s8d := ((st9.trans sb).trans sc).trans sd
    have hmd := seqT_kp B8 s8d.kp hm8
    -- the blocks
    try dsimp only
    refine set_join (fun v H' => Stp b g Pt Hd H' ∧ Thing K C b g H' v) (fun Q1 kq => ?_) ?_
    · refine pick_cat (K := K) (C := C) (b := b) (g := g) (Pt := Pt) rfl (fun Q2 k2 => ?_) (fun Hx sx Q2 k2 => ?_) fun v H' s t => kq v H' ⟨s, t⟩
      · refine ⟨_, rfl, mt, _, rfl, .inr hmd, fun q1 nq => ?_⟩
        exact k2 q1 _ _ ((Stp.refl Bd sd.tabs).same (same_upd nq)) upd_same (Bd.nb nq).1 (Bd.nb nq).2 (by rw [List.length_map]; omega) (fun x hx => by
          obtain ⟨c, _, rfl⟩ := List.mem_map.mp hx
          exact .sc rfl)
      · refine ⟨_, rfl, one, fun t1 n1 => ⟨by rw [sizeLine_eq]; show 7 ≤ 16777216; decide, fun q1 nq => ?_⟩⟩
        have x1 := same_upd (o := .tup [.int 0]) n1
        have x2 := same_upd (o := .lst [.int (-1), .int 50, .int 49, .int 48, .non, .str "0", .ref t1]) nq
        have sy := ((Stp.refl sx.bag sx.tabs).same x1).same x2
        have nbq := (sx.bag.same x1).nb nq
        exact k2 q1 _ _ sy upd_same nbq.1 nbq.2 (by show 0 < 7; decide) (by show 7 ≤ 100; decide) (List.forall_mem_cons.mpr ⟨.sc rfl, List.forall_mem_cons.mpr ⟨.sc rfl, List.forall_mem_cons.mpr ⟨.sc rfl, List.forall_mem_cons.mpr ⟨.sc rfl, List.forall_mem_cons.mpr ⟨.sc rfl, List.forall_mem_cons.mpr ⟨.sc rfl,
          List.forall_mem_cons.mpr ⟨.tup (.inl (.inl (x2 _ _ upd_same))) (fun x hx => by rw [List.mem_singleton.mp hx]; rfl) (by decide), fun x hx => nomatch hx⟩⟩⟩⟩⟩⟩⟩)
    rintro v1 He ⟨se, tv1⟩
    have Be := se.bag
    have hke := hkd.kp Bd se.kp
    have hme := seqT_kp Bd se.kp hmd
    refine st_eq (σ' := [some (.ref a), some (.ref b), some (.int (0 + (i : Int))), some (.ref mt), some (.ref na), some (.ref p), some (nV bl.length), some (.ref od), some (.int (0 + (j : Int))), some v, some (.str due), some v1, y12, y13, y14, y15, y16, y17]) rfl ?_
    try dsimp only
    refine set_join (fun v H' => Stp b g Pt He H' ∧ Thing K C b g H' v) (fun Q1 kq => ?_) ?_
    · refine pick_cat (K := K) (C := C) (b := b) (g := g) (Pt := Pt) rfl (fun Q2 k2 => ?_) (fun Hx sx Q2 k2 => ?_) fun v H' s t => kq v H' ⟨s, t⟩
      · refine ⟨_, rfl, mt, _, rfl, .inr hme, fun q1 nq => ?_⟩
        exact k2 q1 _ _ ((Stp.refl Be se.tabs).same (same_upd nq)) upd_same (Be.nb nq).1 (Be.nb nq).2 (by rw [List.length_map]; omega) (fun x hx => by
          obtain ⟨c, _, rfl⟩ := List.mem_map.mp hx
          exact .sc rfl)
      · refine ⟨_, rfl, one, fun t1 n1 => ⟨by rw [sizeLine_eq]; show 7 ≤ 16777216; decide, fun q1 nq => ?_⟩⟩
        have x1 := same_upd (o := .tup [.int 0]) n1
        have x2 := same_upd (o := .lst [.int (-1), .int 50, .int 49, .int 48, .non, .str "0", .ref t1]) nq
        have sy := ((Stp.refl sx.bag sx.tabs).same x1).same x2
        have nbq := (sx.bag.same x1).nb nq
        exact k2 q1 _ _ sy upd_same nbq.1 nbq.2 (by show 0 < 7; decide) (by show 7 ≤ 100; decide) (List.forall_mem_cons.mpr ⟨.sc rfl, List.forall_mem_cons.mpr ⟨.sc rfl, List.forall_mem_cons.mpr ⟨.sc rfl, List.forall_mem_cons.mpr ⟨.sc rfl, List.forall_mem_cons.mpr ⟨.sc rfl, List.forall_mem_cons.mpr ⟨.sc rfl,
          List.forall_mem_cons.mpr ⟨.tup (.inl (.inl (x2 _ _ upd_same))) (fun x hx => by rw [List.mem_singleton.mp hx]; rfl) (by decide), fun x hx => nomatch hx⟩⟩⟩⟩⟩⟩⟩)
    rintro v2 Hf ⟨sf, tv2⟩
    have Bf := sf.bag
    have hkf := hke.kp Be sf.kp
    have hmf := seqT_kp Be sf.kp hme
    have tv1f := tv1.kp Be sf.kp
    refine st_eq (σ' := [some (.ref a), some (.ref b), some (.int (0 + (i : Int))), some (.ref mt), some (.ref na), some (.ref p), some (nV bl.length), some (.ref od), some (.int (0 + (j : Int))), some v, some (.str due), some v1, some v2, y13, y14, y15, y16, y17]) rfl ?_
    try dsimp only
    refine set_join (fun u H' => u = .bl (isBlk bl v1) ∧ Hf = H') (fun Q1 kq => ?_) ?_
    · refine ⟨_, rfl, v1, 0, 49, rfl, tv1f.ob I, _, rfl, ?_⟩
      cases e : inR 0 49 v1 with
      | false => exact iteF (kq _ _ ⟨by rw [isblk_no R.blk e], rfl⟩)
      | true => exact iteT ⟨_, rfl, _, rfl, mt, _, rfl, .inr hmf, flat_int e, flat_nat bl, kq _ _ ⟨by rw [isblk_yes e]; rfl, rfl⟩⟩
    rintro _ _ ⟨rfl, rfl⟩
    refine st_eq (σ' := [some (.ref a), some (.ref b), some (.int (0 + (i : Int))), some (.ref mt), some (.ref na), some (.ref p), some (nV bl.length), some (.ref od), some (.int (0 + (j : Int))), some v, some (.str due), some v1, some v2, some (.bl (isBlk bl v1)), y14, y15, y16, y17]) rfl ?_
    try dsimp only
    refine set_join (fun u H' => u = .str (if (isBlk bl v1 && isBlk bl v2) = true then "let" else "block") ∧ Hf = H') (fun Q1 kq => ?_) ?_
    · refine ⟨_, rfl, _, rfl, ?_⟩
      cases e1 : isBlk bl v1 with
      | false => exact iteF (iteF (kq _ _ ⟨by rw [e1]; rfl, rfl⟩))
      | true =>
        refine iteT ⟨_, rfl, v2, 0, 49, rfl, tv2.ob I, _, rfl, ?_⟩
        cases e2 : inR 0 49 v2 with
        | false => exact iteF (iteF (kq _ _ ⟨by rw [isblk_no R.blk e2, Bool.and_false]; rfl, rfl⟩))
        | true =>
          refine iteT ⟨_, rfl, _, rfl, mt, _, rfl, .inr hmf, flat_int e2, flat_nat bl, _, rfl, ?_⟩
          cases e3 : inV v2 (bl.map nV) with
          | false => exact iteF (kq _ _ ⟨by rw [isblk_yes e2, e3, Bool.and_false]; rfl, rfl⟩)
          | true => exact iteT (kq _ _ ⟨by rw [e1, isblk_yes e2, e3]; rfl, rfl⟩)
    rintro _ _ ⟨rfl, rfl⟩
    generalize ed2 : (if (isBlk bl v1 && isBlk bl v2) = true then ("let" : Str) else "block") = due2
    have d2l : isBlk bl v1 = true → isBlk bl v2 = true → due2 = "let" := fun e1 e2 => by rw [← ed2, e1, e2]; rfl
    have d2b : isBlk bl v1 = false ∨ isBlk bl v2 = false → due2 = "block" := fun e => by
      rcases e with e | e
      · rw [← ed2, e]; rfl
      · rw [← ed2, e, Bool.and_false]; rfl
    refine st_eq (σ' := [some (.ref a), some (.ref b), some (.int (0 + (i : Int))), some (.ref mt), some (.ref na), some (.ref p), some (nV bl.length), some (.ref od), some (.int (0 + (j : Int))), some v, some (.str due2), some v1, some v2, some (.bl (isBlk bl v1)), y14, y15, y16, y17]) rfl ?_
    try dsimp only
    refine lam_word (due := due2) Bf sf.tabs (fun H2 s2 Q1 k1 => ⟨_, rfl, k1 H2 s2⟩) (fun Ha sa E1 Q1 kl _ _ kb => ?_) fun Hg sg => ?_
    · exact ⟨_, rfl, _, rfl, _, rfl, p, v1, v2, bl, ns2, fs, rfl, hkf.kp Bf sa.kp, ft, (tv1f.kp Bf sa.kp).ob I, (tv2.kp Bf sa.kp).ob I, fun e => kb (d2b e) Ha sa, fun x y ex ey hx hy q1 H' f1 xs nt _ => kl (d2l (isblk_nat ex hx) (isblk_nat ey hy)) _ H' (sa.same xs)⟩
    have Bg := sg.bag
    have hkg := hkf.kp Bf sg.kp
    -- the lot
    try dsimp only
    refine set_join (fun u H' => ∃ (t : Addr) (l : List Nat), u = .ref t ∧ Stp b g Pt Hg H' ∧ H' t = some (.tup (l.map nV)) ∧ l.length ≤ bl.length) (fun Q1 kq => ?_) ?_
    · refine ⟨_, rfl, (bl.length : Int), rfl, by omega, by omega, fun D nD => ?_⟩
      have nbd := Bg.nb nD
      refine lc_range (n := bl.length) (fun k H6 => BagAt H6 b g ∧ Kp b g Hg H6 ∧ LamX.Tabs (LT Pt) H6 ∧ ∃ l : List Nat, H6 D = some (.lst (l.map nV)) ∧ l.length ≤ k) ⟨Bg.put nbd.1 nbd.2, (Kp.refl b g Hg).put nD, tabs_same sg.tabs (same_upd nD), [], upd_same, Nat.zero_le _⟩ ?_ ?_
      · rintro k H6 hk6 ⟨B6', k6, t6, l, eD, ll6⟩
        refine ⟨rfl, _, rfl, b, g, 2, rfl, B6', by decide, by decide, fun r H' r0 r1 B' sb' => ⟨rfl, _, rfl, ite_ok (fun _ => ?_) fun _ => ?_⟩⟩
        · have eD' := sb' D _ eD nbd.1 nbd.2
          refine ⟨_, rfl, _, eD', by rw [List.length_map, sizeLine_eq]; omega, B'.put nbd.1 nbd.2, (k6.trans (Kp.sameB sb')).put nD, tabs_put eD' (tabs_sameB B6' t6 sb'), l ++ [k], ?_, by rw [List.length_append]; exact Nat.succ_le_succ ll6⟩
          rw [upd_same, List.map_append, Int.zero_add]
          rfl
        · exact ⟨B', k6.trans (Kp.sameB sb'), tabs_sameB B6' t6 sb', l, sb' D _ eD nbd.1 nbd.2, by omega⟩
      · rintro H6 ⟨B6', k6, t6, l, eD, ll6⟩
        refine .inl ⟨D, _, rfl, .inl (.inl eD), fun t2 nt2 => ?_⟩
        have x := same_upd (o := .tup (l.map nV)) nt2
        exact kq _ _ ⟨t2, l, rfl, ⟨k6.trans (Kp.same x), B6'.same x, tabs_same t6 x⟩, upd_same, ll6⟩
    rintro u Hh ⟨lt, l, rfl, sh, elt, hll⟩
    have Bh := sh.bag
    have hkh := hkg.kp Bg sh.kp
    refine st_eq (σ' := [some (.ref a), some (.ref b), some (.int (0 + (i : Int))), some (.ref mt), some (.ref na), some (.ref p), some (nV bl.length), some (.ref od), some (.int (0 + (j : Int))), some v, some (.str due2), some v1, some v2, some (.bl (isBlk bl v1)), some (.ref lt), y15, y16, y17]) rfl ?_
    try dsimp only
    refine set_join (fun u H' => ∃ q xs, u = .ref q ∧ Stp b g Pt Hh H' ∧ H' q = some (.lst xs) ∧ q ≠ b ∧ q ≠ g ∧ xs.length = 7 ∧ ∀ x ∈ xs, Thing K C b g H' x) (fun Q1 kq => ?_) ?_
    · have h0 : SqT K Hh lt (l.map nV) := .inl (.inl elt)
      have l0 : (l.map nV).length ≤ 6 := by rw [List.length_map]; omega
      refine ⟨_, rfl, _, rfl, lt, _, rfl, h0, fun r1 n1 => ?_⟩
      have x1 : Same Hh (upd Hh r1 (.tup (l.map nV).reverse)) := same_upd n1
      have g1 : SqT K (upd Hh r1 (.tup (l.map nV).reverse)) r1 (l.map nV).reverse := .inl (.inl upd_same)
      generalize upd Hh r1 (.tup (l.map nV).reverse) = Ha at x1 g1 ⊢
      refine ⟨_, rfl, _, rfl, 1, rfl, _, rfl, ?_⟩
      dsimp only [tNoPart, Cx.nox]
      refine slT_of (same_seqT x1 h0) fun p2 Hb x2 g2 => ?_
      have y2 := x1.trans x2
      have c2 := cutV_length (l.map nV) (some (-1)) none
      refine catA_of (same_seqT y2 h0) g2 (by rw [sizeLine_eq]; omega) fun p3 Hc x3 g3 => ?_
      have y3 := y2.trans x3
      have lc3 : ((l.map nV) ++ cutV (l.map nV) (some (-1)) none).length ≤ 900000 := by rw [List.length_append]; omega
      refine ⟨_, rfl, lt, _, rfl, .inr (same_seqT y3 h0), fun l4 n4 => ?_⟩
      have nb4 := (Bh.same y3).nb n4
      have x4 : Same Hc (upd Hc l4 (.lst (l.map nV))) := same_upd n4
      have g4 : upd Hc l4 (.lst (l.map nV)) l4 = some (.lst (l.map nV)) := upd_same
      generalize upd Hc l4 (.lst (l.map nV)) = Hd2 at x4 g4 ⊢
      have y4 := y3.trans x4
      refine ⟨_, rfl, _, rfl, one, fun t5 n5 => ?_⟩
      have x5 : Same Hd2 (upd Hd2 t5 (.tup [nV bl.length])) := same_upd n5
      have f5 : SqT K (upd Hd2 t5 (.tup [nV bl.length])) t5 [nV bl.length] := .inl (.inl upd_same)
      generalize upd Hd2 t5 (.tup [nV bl.length]) = He2 at x5 f5 ⊢
      have y5 := y4.trans x5
      refine catA_of (same_seqT y5 h0) f5 (by rw [sizeLine_eq]; show (l.map nV).length + 1 ≤ _; omega) fun p5 Hf2 x6 g5 => ?_
      have y6 := y5.trans x6
      refine ⟨_, rfl, one, fun t6 n6 => ?_⟩
      have x7 : Same Hf2 (upd Hf2 t6 (.tup [.int (-1)])) := same_upd n6
      have f6 : SqT K (upd Hf2 t6 (.tup [.int (-1)])) t6 [.int (-1)] := .inl (.inl upd_same)
      generalize upd Hf2 t6 (.tup [.int (-1)]) = Hg2 at x7 f6 ⊢
      have y7 := y6.trans x7
      refine ⟨_, rfl, catA_of f6 (same_seqT y7 h0) (by rw [sizeLine_eq]; show 1 + (l.map nV).length ≤ _; omega) fun p6 Hh2 x8 g6 => ?_⟩
      have y8 := y7.trans x8
      refine ⟨_, rfl, ?_⟩
      dsimp only [tNoPart, Cx.nox]
      refine ⟨1, rfl, _, rfl, slT_of (same_seqT y8 h0) fun p7 Hi2 x9 g7 => ⟨one, fun t7 n7 => ?_⟩⟩
      have y9 := y8.trans x9
      have c7 := cutV_length (l.map nV) none (some (-1))
      have x10 : Same Hi2 (upd Hi2 t7 (.tup [.bl true])) := same_upd n7
      have f7 : SqT K (upd Hi2 t7 (.tup [.bl true])) t7 [.bl true] := .inl (.inl upd_same)
      generalize upd Hi2 t7 (.tup [.bl true]) = Hj2 at x10 f7 ⊢
      have y10 := y9.trans x10
      refine catA_of (same_seqT x10 g7) f7 (by rw [sizeLine_eq]; show (cutV (l.map nV) none (some (-1))).length + 1 ≤ _; omega) fun p8 Hk2 x11 g8 => ?_
      have y11 := y10.trans x11
      refine ⟨by rw [sizeLine_eq]; show 7 ≤ 16777216; decide, fun q16 n16 => ?_⟩
      have x12 : Same Hk2 (upd Hk2 q16 (.lst [.ref lt, .ref r1, .ref p3, .ref l4, .ref p5, .ref p6, .ref p8])) := same_upd n16
      have nbq := (Bh.same y11).nb n16
      have w8 := x12
      have w7 := x11.trans w8
      have w6 := ((x9.trans x10).trans w7)
      have w5 := ((x7.trans x8).trans w6)
      have w4 := ((x5.trans x6).trans w5)
      have w3 := x4.trans w4
      have w1 := (x2.trans x3).trans w3
      refine kq _ _ ⟨q16, _, rfl, (Stp.refl Bh sh.tabs).same (y11.trans x12), upd_same, nbq.1, nbq.2, rfl, ?_⟩
      have sc1 : ∀ x ∈ ((l.map nV) ++ cutV (l.map nV) (some (-1)) none), scal x = true := fun x hx => by
        rcases List.mem_append.mp hx with hx | hx
        · exact scal_nat hx
        · exact scal_nat (mem_cut hx)
      have sc2 : ∀ x ∈ (l.map nV) ++ [nV bl.length], scal x = true := fun x hx => by
        rcases List.mem_append.mp hx with hx | hx
        · exact scal_nat hx
        · rw [List.mem_singleton.mp hx]; rfl
      have sc3 : ∀ x ∈ [V.int (-1)] ++ (l.map nV), scal x = true := fun x hx => by
        rcases List.mem_append.mp hx with hx | hx
        · rw [List.mem_singleton.mp hx]; rfl
        · exact scal_nat hx
      have sc4 : ∀ x ∈ cutV (l.map nV) none (some (-1)) ++ [V.bl true], scal x = true := fun x hx => by
        rcases List.mem_append.mp hx with hx | hx
        · exact scal_nat (mem_cut hx)
        · rw [List.mem_singleton.mp hx]; rfl
      exact List.forall_mem_cons.mpr ⟨.tup (same_seqT (y11.trans x12) h0) (fun x hx => scal_nat hx) (by omega), List.forall_mem_cons.mpr ⟨.tup (same_seqT w1 g1) (fun x hx => scal_nat (List.mem_reverse.mp hx)) (by rw [List.length_reverse]; omega),
        List.forall_mem_cons.mpr ⟨.tup (same_seqT w3 g3) sc1 lc3, List.forall_mem_cons.mpr ⟨.lst (w4 _ _ g4) nb4.1 nb4.2, List.forall_mem_cons.mpr ⟨.tup (same_seqT w5 g5) sc2 (by rw [List.length_append]; show (l.map nV).length + 1 ≤ _; omega),
        List.forall_mem_cons.mpr ⟨.tup (same_seqT w6 g6) sc3 (by rw [List.length_append]; show 1 + (l.map nV).length ≤ _; omega), List.forall_mem_cons.mpr ⟨.tup (same_seqT w8 g8) sc4 (by rw [List.length_append]; show (cutV (l.map nV) none (some (-1))).length + 1 ≤ _; omega), fun x hx => nomatch hx⟩⟩⟩⟩⟩⟩⟩
    rintro u Hi ⟨q16, xs16, rfl, si, e16, n16, m16, l16, t16⟩
    have Bi := si.bag
    have hki := hkh.kp Bh si.kp
    refine st_eq (σ' := [some (.ref a), some (.ref b), some (.int (0 + (i : Int))), some (.ref mt), some (.ref na), some (.ref p), some (nV bl.length), some (.ref od), some (.int (0 + (j : Int))), some v, some (.str due2), some v1, some v2, some (.bl (isBlk bl v1)), some (.ref lt), y15, some (.ref q16), y17]) rfl ?_
    try dsimp only
    have s8i := (((((s8d.trans se).trans sf).trans sg).trans sh).trans si)
    refine set_join (fun v H' => Stp b g Pt Hi H' ∧ Thing K C b g H' v) (fun Q1 kq => ?_) ?_
    · refine pick_cat (K := K) (C := C) (b := b) (g := g) (Pt := Pt) rfl (fun Q2 k2 => ?_) (fun Hx sx Q2 k2 => ?_) fun v H' s t => kq v H' ⟨s, t⟩
      · exact ⟨_, rfl, k2 q16 Hi xs16 (Stp.refl Bi si.tabs) e16 n16 m16 (by omega) t16⟩
      · have k8 := s8i.trans sx
        exact ⟨_, rfl, k2 od Hx ovs (Stp.refl sx.bag sx.tabs) (k8.kp _ _ eo8 o1 o2 fun ps z => by cases z) o1 o2 (by omega) (by omega) (fun y hy => (ot8 y hy).kp B8 k8.kp)⟩
    rintro v3 Hj ⟨sj, tv3⟩
    have Bj := sj.bag
    have hkj := hki.kp Bi sj.kp
    have s8j := s8i.trans sj
    refine st_eq (σ' := [some (.ref a), some (.ref b), some (.int (0 + (i : Int))), some (.ref mt), some (.ref na), some (.ref p), some (nV bl.length), some (.ref od), some (.int (0 + (j : Int))), some v, some (.str due2), some v1, some v2, some (.bl (isBlk bl v1)), some (.ref lt), y15, some (.ref q16), some v3]) rfl ?_
    try dsimp only
    rcases tv3.kind I Bj with hno | ⟨a3, xs3, rfl, g3, hx3, hl3⟩
    · refine lam_word (due := "lot") Bj sj.tabs (fun H2 s2 Q1 k1 => ?_) (fun Hu su E1 Q1 kl _ kt _ => ?_) fun Hv sv => ?_
      · exact ⟨_, rfl, _, rfl, bl.length, v3, false, rfl, hno H2 s2.kp, fun _ => ⟨_, rfl, iteF (k1 H2 s2)⟩, fun z => nomatch z⟩
      · exact ⟨_, rfl, _, rfl, p, v3, bl, ns2, fs, false, rfl, hkj.kp Bj su.kp, ft, by omega, hno Hu su.kp, fun _ => kt rfl Hu su, fun z => nomatch z⟩
      · exact ⟨_, _, _, _, _, _, _, _, _, _, rfl, st8.trans (s8j.trans sv)⟩
    · have otr : ∀ H', Kp b g Hj H' → ObT K H' (.ref a3) true := fun H' k => ⟨_, tyx_tup (seqT_kp Bj k g3), kit_ty (by decide +kernel)⟩
      refine lam_word (due := if lotGo bl.length (-1) xs3 = true then "let" else "lot") Bj sj.tabs (fun H2 s2 Q1 k1 => ?_) (fun Hu su E1 Q1 kl _ kt _ => ?_) fun Hv sv => ?_
      · refine ⟨_, rfl, _, rfl, bl.length, .ref a3, true, rfl, otr H2 s2.kp, fun z => absurd z (by decide), fun _ => ⟨a3, xs3, rfl, seqT_kp Bj s2.kp g3, hl3, fun x hx H' _ => scal_ob (hx3 x hx), fun H' x => ⟨_, rfl, ?_⟩⟩⟩
        cases e : lotGo bl.length (-1) xs3 with
        | true =>
          rw [e] at k1
          exact iteT (k1 H' (s2.same x))
        | false =>
          rw [e] at k1
          exact iteF (k1 H' (s2.same x))
      · refine ⟨_, rfl, _, rfl, p, .ref a3, bl, ns2, fs, true, rfl, hkj.kp Bj su.kp, ft, by omega, otr Hu su.kp, fun z => absurd z (by decide), fun _ => ⟨a3, xs3, rfl, seqT_kp Bj su.kp g3, fun x hx => scal_ob (hx3 x hx), fun e => kt (by rw [e]; rfl) Hu su, fun l2 el2 asc hin q1 H' f1 x nq _ => kl ?_ _ H' (su.same x)⟩⟩
        rw [el2, lotGo_map bl.length l2 (-1) asc fun k hk => ⟨hin k hk, by omega⟩]
        rfl
      · exact ⟨_, _, _, _, _, _, _, _, _, _, rfl, st8.trans (s8j.trans sv)⟩
end
end Rip

/-! The head: what is read off the run of the top; the row's end with the law's table of lambdas. -/
namespace LamX
open PySem PySem.Spec PyProof.Rows L2
/-- the end of a row whose facts hold of some part of the heap, with tables -/
theorem walk_tabE {l : PySem.W.OpenLaw} {n k : Nat} {q : Program} {loose : List Str} {XP : (Str → Option Value) → Heap → Prop} {YP : World → Heap → Prop} {d : DefRec} {CX : CXT} {x : Str}
    (hn : l.most = some n) (small : n ≤ sizeLine) (plain : d.params.defaults = []) (room : Room k callerA)
    (F : ∀ (w : World) (mg : Str → Option Value) (fa : Addr) (h : Heap), YP w h → h.Ns mainGlobals mg → mg d.name = some (.ref fa) → ∃ K : PySem.W.Frag, K.In h ∧ LawAtS l w K CX k n x mg fa h)
    (out : ∀ (H : Hp) (s : Shared) (e : Value) (t : Shared), CX [] H s (fun _ _ _ => False) e t → False) : PySem.W.WalkO q loose XP YP l.row.toRowW d [] (fun f vs => PySem.call f vs) := by
  refine Att.attach_callB hn plain fun w t₀ t₁ mg mb fa o pm cd doc a vs ns W Y _ _ _ gf ob inz len bits gens => ?_
  obtain ⟨K, inK, fd, cs, sp, e1, e2, e3, e4, e5, e6⟩ := F w mg fa _ Y W.T.g gf
  exact law_callTs inK W.T.g W.T.b W.T.builtins W.T.nolimit gens e1 e2 e3 W.T.bmain ob inz (Nat.le_trans len small) room e6 e4 (fun H hT hS => e5 H a ns len bits hT hS) fun H e t => out H t₁ e t
end LamX
namespace Rip
open PySem PySem.Spec PyProof.Rows L2
def dNt : He.DefD := ⟨("is_integer", none), "is_integer", "is_integer", defArgs s_isinteger, defBody s_isinteger, defScope s_isinteger, [], []⟩
def dN : He.DefD := ⟨("is_number", none), "is_number", "is_number", defArgs s_isnum, defBody s_isnum, defScope s_isnum, [], []⟩
def dB : He.DefD := ⟨("is_number_below", none), "is_number_below", "is_number_below", defArgs s_isbelow, defBody s_isbelow, defScope s_isbelow, [], []⟩
def dO : He.DefD := ⟨("is_lot_below", none), "is_lot_below", "is_lot_below", defArgs s_islot, defBody s_islot, defScope s_islot, [], []⟩
def dM : He.DefD := ⟨("mask_of", none), "mask_of", "mask_of", defArgs s_maskof, defBody s_maskof, defScope s_maskof, [], []⟩
def dL : He.DefD := ⟨("lot_of", none), "lot_of", "lot_of", defArgs s_lotof, defBody s_lotof, defScope s_lotof, [], []⟩
def dF : He.DefD := ⟨("far_masks", none), "far_masks", "far_masks", defArgs s_far, defBody s_far, defScope s_far, [], []⟩
def dI : He.DefD := ⟨("Book", some "__init__"), "__init__", "Book.__init__", defArgs s_init, defBody s_init, defScope s_init, [], []⟩
def dAre : He.DefD := ⟨("are_blocks", none), "are_blocks", "are_blocks", defArgs s_areb, defBody s_areb, defScope s_areb, [], []⟩
def dC : He.DefD := ⟨("check_parts", none), "check_parts", "check_parts", defArgs s_check, defBody s_check, defScope s_check, [], []⟩
def dD : He.DefD := ⟨("is_need", none), "is_need", "is_need", defArgs s_isneed, defBody s_isneed, defScope s_isneed, [], []⟩
def dMd : He.DefD := ⟨("made_book", none), "made_book", "made_book", defArgs s_made, defBody s_made, defScope s_made, [], []⟩
def dIb : He.DefD := ⟨("is_block", none), "is_block", "is_block", defArgs s_isblock, defBody s_isblock, defScope s_isblock, [], []⟩
def dIc : He.DefD := ⟨("is_change", none), "is_change", "is_change", defArgs s_ischange, defBody s_ischange, defScope s_ischange, [], []⟩
def dBe : He.DefD := ⟨("beneath", none), "beneath", "beneath", defArgs s_beneath, defBody s_beneath, defScope s_beneath, [], []⟩
def dAb : He.DefD := ⟨("above", none), "above", "above", defArgs s_above, defBody s_above, defScope s_above, [], []⟩
def dDa : He.DefD := ⟨("day", none), "day", "day", defArgs s_day, defBody s_day, defScope s_day, [], []⟩
def dTo : He.DefD := ⟨("put_together", none), "put_together", "put_together", defArgs s_tog, defBody s_tog, defScope s_tog, [], []⟩
def dPa : He.DefD := ⟨("parted", none), "parted", "parted", defArgs s_parted, defBody s_parted, defScope s_parted, [], []⟩
def dlB : He.DefD := ⟨("_law_bag", none), "_law_bag", "_law_bag", defArgs sBag, defBody sBag, defScope sBag, [], []⟩
def dlP : He.DefD := ⟨("_law_pick", none), "_law_pick", "_law_pick", defArgs sPick, defBody sPick, defScope sPick, [], []⟩
def dlO : He.DefD := ⟨("_law_some", none), "_law_some", "_law_some", defArgs sSome, defBody sSome, defScope sSome, [], []⟩
def dlI : He.DefD := ⟨("_law_is_int", none), "_law_is_int", "_law_is_int", defArgs s_isint, defBody s_isint, defScope s_isint, [], []⟩
def dlD : He.DefD := ⟨("_law_deep", none), "_law_deep", "_law_deep", defArgs s_deep, defBody s_deep, defScope s_deep, [], []⟩
def dlN : He.DefD := ⟨("_law_needs", none), "_law_needs", "_law_needs", defArgs s_needs, defBody s_needs, defScope s_needs, [], []⟩
def dlR : He.DefD := ⟨("_law_parts", none), "_law_parts", "_law_parts", defArgs s_parts, defBody s_parts, defScope s_parts, [], []⟩
def dlL : He.DefD := ⟨("_law_is_lot", none), "_law_is_lot", "_law_is_lot", defArgs s_lawlot, defBody s_lawlot, defScope s_lawlot, [], []⟩
def dlW : He.DefD := ⟨("_law_word", none), "_law_word", "_law_word", defArgs s_word, defBody s_word, defScope s_word, [], []⟩
def dlL0 : He.DefD := ⟨("law", none), "law", "law", defArgs s_law, defBody s_law, defScope s_law, [], []⟩
def fnL : List He.DefD := [dNt, dN, dB, dO, dM, dL, dF, dI, dAre, dC, dD, dMd, dIb, dIc, dBe, dAb, dDa, dTo, dPa, dlB, dlP, dlO, dlI, dlD, dlN, dlR, dlL, dlW, dlL0]
def e1 (K : PySem.W.Frag) : Bool := (["is_integer", "is_number", "is_number_below", "is_lot_below", "mask_of", "lot_of", "far_masks", "are_blocks", "check_parts", "is_need", "made_book", "is_block", "is_change", "beneath", "above", "day", "put_together", "parted", "_law_bag", "_law_pick", "_law_some", "_law_is_int", "_law_deep", "_law_needs", "_law_parts", "_law_is_lot", "_law_word", "law", "Book", "WaveError", "NoChange", "NoLot", "NoBlock"] : List String).all fun x => He.Fa.ok K (.glo (PySem.Str.ofString x))
def e2 (K : PySem.W.Frag) : Bool := (["len", "int", "abs", "sum", "all", "zip", "range", "enumerate", "isinstance", "tuple", "list", "bool", "ValueError", "sorted"] : List String).all fun x => He.Fa.ok K (.free (PySem.Str.ofString x))
def e3 (K : PySem.W.Frag) : Bool := He.Fa.ok K (.int "MOST_CHANGES" 200) && (He.Fa.ok K (.int "MOST_BLOCKS" 50) && He.Fa.ok K (.int "MOST_NEEDS" 4000))
def bkA (K : PySem.W.Frag) : Addr := He.ga K "Book"
def e4 (K : PySem.W.Frag) : Bool := He.Fa.ok K (.cls "Book") && (He.Fa.ok K (.noat "Book" "blocks") && (He.Fa.ok K (.noat "Book" "needs") && (He.Fa.ok K (.noat "Book" "far") && (He.Fa.ok K (.mkr "Book") &&
  (decide (PySem.W.findIn K (.ref (bkA K)) "__class__" = some (some (.builtin "object.__class__"))) && (decide (PySem.W.mroIn K (bkA K) (.type "object") = some true) && (decide (PySem.W.kitOne K (.ref (bkA K)) (.type "int") = some false) &&
  (decide (PySem.W.kitOne K (.ref (bkA K)) (.type "bool") = some false) && decide (PySem.W.kitOne K (.ref (bkA K)) (.type "tuple") = some false)))))))))
def nm3 (i : Nat) : Str := if i = 0 then "NoChange" else if i = 1 then "NoLot" else "NoBlock"
def c3 (K : PySem.W.Frag) (i : Nat) : Addr := He.ga K (nm3 i)
def e5 (K : PySem.W.Frag) : Bool := (List.range 3).all fun i => He.Fa.ok K (.exc (nm3 i)) && (He.Fa.ok K (.exm (nm3 i) "WaveError" true) && (decide (PySem.W.findIn K (.ref (c3 K i)) "__getattribute__" = some (some (.builtin "BaseException.__getattribute__"))) &&
  (decide (PySem.W.findIn K (.ref (c3 K i)) "__getattr__" = some none) && (decide (PySem.W.subIn K (.ref (c3 K i)) (.type "BaseException") = some true) && (PySem.W.hasDictIn K (c3 K i) &&
  (decide (PySem.W.findIn K (.ref (c3 K i)) "__class__" = some (some (.builtin "object.__class__"))) && (decide (PySem.W.mroIn K (c3 K i) (.type "object") = some true) && decide (PySem.W.kitOne K (.ref (c3 K i)) (.type "ValueError") = some true))))))))
def e6 (K : PySem.W.Frag) : Bool := (List.range 3).all fun i => (List.range 3).all fun j => decide (PySem.W.kitOne K (.ref (c3 K i)) (.ref (c3 K j)) = some (decide (j = i)))
def e7 (K : PySem.W.Frag) : Bool := decide (PySem.W.specialIn K (.builtin "object.__class__") "__get__" = some (some (.builtin "getset_descriptor.__get__"))) && decide (PySem.W.takesIn K (.builtin "object.__class__") = some true)
def exB (K : PySem.W.Frag) : Bool := e1 K && (e2 K && (e3 K && (e4 K && (e5 K && (e6 K && e7 K)))))
theorem all_range {n : Nat} {f : Nat → Bool} (h : (List.range n).all f = true) {i : Nat} (hi : i < n) : f i = true :=
  List.all_eq_true.mp h i (List.mem_range.mpr hi)
theorem fun_of {K : PySem.W.Frag} {x qual : Str} {st : Stmt} {f : Addr} {fd : FuncData} (F : FunD K x qual (defArgs st) (defBody st) (defScope st) [] [] f fd) : Fun K x qual st f fd := by
  obtain ⟨oc, od, dV, kV, doc, pm, an, cdv, ct, osl, rfl, lk, hcd, hD, hK⟩ := F.ex
  rcases hD with ⟨_, rfl⟩ | ⟨e, _⟩
  · exact ⟨⟨oc, od, kV, doc, pm, an, cdv, ct, osl, rfl, lk, hcd⟩, F.kp⟩
  · exact absurd rfl e
theorem code_of {K : PySem.W.Frag} {x qual : Str} {st : Stmt} {p : Str × Option Str} {fd : FuncData} (F : Fun K x qual st (He.fAd K p) fd) : fd.code = .ref (He.codeOf K p) := by
  obtain ⟨oc, od, kV, doc, pm, an, cdv, ct, osl, rfl, lk, hcd⟩ := F.ex
  obtain ⟨c, e⟩ := He.codeIn_ref hcd
  subst e
  have z := He.codeOf_eq lk (c := c) rfl
  rw [z]
theorem all_mk {l : PySem.W.OpenLaw} {w : World} {K : PySem.W.Frag} {h : Heap} {mg : Str → Option Value} {fa : Addr} (X : K.In h) (G : h.Ns mainGlobals mg) (hfa : mg "law" = some (.ref fa)) (c : He.SaysX [] fnL [] [("law", none)] exB w h K) : LamX.LawAtS l w K CX0 12 63 "_law_script" mg fa h := by
  have ex := c.more
  unfold exB at ex
  simp only [Bool.and_eq_true] at ex
  obtain ⟨h1, h2, h3, h4, h5, h6, h7⟩ := ex
  have gm := fun (x : String) hx => He.glo_ok X G (List.all_eq_true.mp h1 x hx)
  have fr := fun (x : String) hx => He.free_ok X G (List.all_eq_true.mp h2 x hx)
  have e := hfa.symm.trans (gm "law" (by decide))
  cases e
  have B : Blt mg := ⟨fr "len" (by decide), fr "int" (by decide), fr "abs" (by decide), fr "sum" (by decide), fr "all" (by decide), fr "zip" (by decide), fr "range" (by decide), fr "enumerate" (by decide), fr "isinstance" (by decide), fr "tuple" (by decide), fr "list" (by decide), fr "bool" (by decide)⟩
  unfold e3 at h3
  unfold e4 at h4
  unfold e7 at h7
  simp only [Bool.and_eq_true, decide_eq_true_eq] at h3 h4 h7
  have Cn : Consts mg := ⟨He.int_ok X G h3.1, He.int_ok X G h3.2.1, He.int_ok X G h3.2.2⟩
  obtain ⟨b1, b2, b3, b4, b5, b6, b7, b8, b9, b10⟩ := h4
  have clB := He.cls_ok b1
  have T : BkT K mg (bkA K) := ⟨clB, He.noat_ok b2, He.noat_ok b3, He.noat_ok b4, gm "Book" (by decide)⟩
  have I : BkI K (bkA K) := ⟨fun H a dx fs e => .base (.ins e clB b6 h7.1 h7.2 b7), b8, b9, b10⟩
  have x5 := fun i (hi : i < 3) => all_range h5 hi
  simp only [Bool.and_eq_true, decide_eq_true_eq] at x5
  have k6 := fun i j (hi : i < 3) (hj : j < 3) => of_decide_eq_true (all_range (all_range h6 hi) hj)
  have xc : ∀ i, i < 3 → ExcC K (c3 K i) := fun i hi => ⟨(x5 i hi).2.2.1, (x5 i hi).2.2.2.1, (x5 i hi).2.2.2.2.1, (x5 i hi).2.2.2.2.2.1, (x5 i hi).2.2.2.2.2.2.1, h7.1, h7.2, (x5 i hi).2.2.2.2.2.2.2.1⟩
  have xv : ∀ i, i < 3 → PySem.W.kitOne K (.ref (c3 K i)) (.type "ValueError") = some true := fun i hi => (x5 i hi).2.2.2.2.2.2.2.2
  have xm := fun i (hi : i < 3) => He.exm_ok (x5 i hi).2.1
  have xe := fun i (hi : i < 3) => He.exc_ok (x5 i hi).1
  have gN : mg "NoChange" = some (.ref (c3 K 0)) := gm "NoChange" (by decide)
  have gL : mg "NoLot" = some (.ref (c3 K 1)) := gm "NoLot" (by decide)
  have gB : mg "NoBlock" = some (.ref (c3 K 2)) := gm "NoBlock" (by decide)
  have W : WordT K mg (He.ga K "WaveError") (c3 K 0) (c3 K 1) (c3 K 2) := ⟨gm "WaveError" (by decide), gN, gL, gB, fr "ValueError" (by decide), B.isinstance, xc 0 (by decide), xc 1 (by decide), xc 2 (by decide),
    k6 0 0 (by decide) (by decide), k6 0 1 (by decide) (by decide), k6 0 2 (by decide) (by decide), xv 0 (by decide), k6 1 0 (by decide) (by decide), k6 1 1 (by decide) (by decide), k6 1 2 (by decide) (by decide), xv 1 (by decide),
    k6 2 0 (by decide) (by decide), k6 2 1 (by decide) (by decide), k6 2 2 (by decide) (by decide), xv 2 (by decide), xm 0 (by decide), xm 1 (by decide), xm 2 (by decide)⟩
  have E0 : ErT K mg "NoChange" (c3 K 0) := ⟨(xe 0 (by decide)).1, gN, (xe 0 (by decide)).2.1, (xe 0 (by decide)).2.2.1, (xe 0 (by decide)).2.2.2⟩
  have E1 : ErT K mg "NoLot" (c3 K 1) := ⟨(xe 1 (by decide)).1, gL, (xe 1 (by decide)).2.1, (xe 1 (by decide)).2.2.1, (xe 1 (by decide)).2.2.2⟩
  have E2 : ErT K mg "NoBlock" (c3 K 2) := ⟨(xe 2 (by decide)).1, gB, (xe 2 (by decide)).2.1, (xe 2 (by decide)).2.2.1, (xe 2 (by decide)).2.2.2⟩
  have D := c.t.d
  obtain ⟨fdNt, ENt⟩ := D.def_ 0 (d := dNt) rfl
  have bNt := FunD.bindsN (ps := ["thing"]) ENt fun _ _ _ _ _ _ us hl => match us, hl with | [_], _ => rfl
  have FNt := fun_of (st := s_isinteger) ENt
  obtain ⟨fdN, EN⟩ := D.def_ 1 (d := dN) rfl
  have bN := FunD.bindsN (ps := ["thing"]) EN fun _ _ _ _ _ _ us hl => match us, hl with | [_], _ => rfl
  have FN := fun_of (st := s_isnum) EN
  obtain ⟨fdB, EB⟩ := D.def_ 2 (d := dB) rfl
  have bB := FunD.bindsN (ps := ["bound", "thing"]) EB fun _ _ _ _ _ _ us hl => match us, hl with | [_, _], _ => rfl
  have FB := fun_of (st := s_isbelow) EB
  obtain ⟨fdO, EO⟩ := D.def_ 3 (d := dO) rfl
  have bO := FunD.bindsN (ps := ["bound", "thing"]) EO fun _ _ _ _ _ _ us hl => match us, hl with | [_, _], _ => rfl
  have FO := fun_of (st := s_islot) EO
  obtain ⟨fdM, EM⟩ := D.def_ 4 (d := dM) rfl
  have bM := FunD.bindsN (ps := ["lot"]) EM fun _ _ _ _ _ _ us hl => match us, hl with | [_], _ => rfl
  have FM := fun_of (st := s_maskof) EM
  obtain ⟨fdL, EL⟩ := D.def_ 5 (d := dL) rfl
  have bL := FunD.bindsN (ps := ["mask"]) EL fun _ _ _ _ _ _ us hl => match us, hl with | [_], _ => rfl
  have FL := fun_of (st := s_lotof) EL
  obtain ⟨fdF, EF⟩ := D.def_ 6 (d := dF) rfl
  have bF := FunD.bindsN (ps := ["many", "needs"]) EF fun _ _ _ _ _ _ us hl => match us, hl with | [_, _], _ => rfl
  have FF := fun_of (st := s_far) EF
  obtain ⟨fdI, EI⟩ := D.def_ 7 (d := dI) rfl
  have bI := FunD.bindsN (ps := ["self", "blocks", "needs"]) EI fun _ _ _ _ _ _ us hl => match us, hl with | [_, _, _], _ => rfl
  have FI := fun_of (st := s_init) EI
  obtain ⟨fdAre, EAre⟩ := D.def_ 8 (d := dAre) rfl
  have bAre := FunD.bindsN (ps := ["thing"]) EAre fun _ _ _ _ _ _ us hl => match us, hl with | [_], _ => rfl
  have FAre := fun_of (st := s_areb) EAre
  obtain ⟨fdC, EC⟩ := D.def_ 9 (d := dC) rfl
  have bC := FunD.bindsN (ps := ["blocks", "needs"]) EC fun _ _ _ _ _ _ us hl => match us, hl with | [_, _], _ => rfl
  have FC := fun_of (st := s_check) EC
  obtain ⟨fdD, ED⟩ := D.def_ 10 (d := dD) rfl
  have bD := FunD.bindsN (ps := ["many", "thing"]) ED fun _ _ _ _ _ _ us hl => match us, hl with | [_, _], _ => rfl
  have FD := fun_of (st := s_isneed) ED
  obtain ⟨fdMd, EMd⟩ := D.def_ 11 (d := dMd) rfl
  have bMd := FunD.bindsN (ps := ["blocks", "needs"]) EMd fun _ _ _ _ _ _ us hl => match us, hl with | [_, _], _ => rfl
  have FMd := fun_of (st := s_made) EMd
  obtain ⟨fdIb, EIb⟩ := D.def_ 12 (d := dIb) rfl
  have bIb := FunD.bindsN (ps := ["book", "thing"]) EIb fun _ _ _ _ _ _ us hl => match us, hl with | [_, _], _ => rfl
  have FIb := fun_of (st := s_isblock) EIb
  obtain ⟨fdIc, EIc⟩ := D.def_ 13 (d := dIc) rfl
  have bIc := FunD.bindsN (ps := ["book", "thing"]) EIc fun _ _ _ _ _ _ us hl => match us, hl with | [_, _], _ => rfl
  have FIc := fun_of (st := s_ischange) EIc
  obtain ⟨fdBe, EBe⟩ := D.def_ 14 (d := dBe) rfl
  have bBe := FunD.bindsN (ps := ["book", "change"]) EBe fun _ _ _ _ _ _ us hl => match us, hl with | [_, _], _ => rfl
  have FBe := fun_of (st := s_beneath) EBe
  obtain ⟨fdAb, EAb⟩ := D.def_ 15 (d := dAb) rfl
  have bAb := FunD.bindsN (ps := ["book", "change"]) EAb fun _ _ _ _ _ _ us hl => match us, hl with | [_, _], _ => rfl
  have FAb := fun_of (st := s_above) EAb
  obtain ⟨fdDa, EDa⟩ := D.def_ 16 (d := dDa) rfl
  have bDa := FunD.bindsN (ps := ["book", "lot"]) EDa fun _ _ _ _ _ _ us hl => match us, hl with | [_, _], _ => rfl
  have FDa := fun_of (st := s_day) EDa
  obtain ⟨fdTo, ETo⟩ := D.def_ 17 (d := dTo) rfl
  have bTo := FunD.bindsN (ps := ["book", "one", "other"]) ETo fun _ _ _ _ _ _ us hl => match us, hl with | [_, _, _], _ => rfl
  have FTo := fun_of (st := s_tog) ETo
  obtain ⟨fdPa, EPa⟩ := D.def_ 18 (d := dPa) rfl
  have bPa := FunD.bindsN (ps := ["book", "change"]) EPa fun _ _ _ _ _ _ us hl => match us, hl with | [_, _], _ => rfl
  have FPa := fun_of (st := s_parted) EPa
  obtain ⟨fdlB, ElB⟩ := D.def_ 19 (d := dlB) rfl
  have blB := FunD.bindsN (ps := ["_law_script"]) ElB fun _ _ _ _ _ _ us hl => match us, hl with | [_], _ => rfl
  have FlB := fun_of (st := sBag) ElB
  obtain ⟨fdlP, ElP⟩ := D.def_ 20 (d := dlP) rfl
  have blP := FunD.bindsN (ps := ["_law_bag_here", "_law_many"]) ElP fun _ _ _ _ _ _ us hl => match us, hl with | [_, _], _ => rfl
  have FlP := fun_of (st := sPick) ElP
  obtain ⟨fdlO, ElO⟩ := D.def_ 21 (d := dlO) rfl
  have blO := FunD.bindsN (ps := ["_law_bag_here", "_law_things"]) ElO fun _ _ _ _ _ _ us hl => match us, hl with | [_, _], _ => rfl
  have FlO := fun_of (st := sSome) ElO
  obtain ⟨fdlI, ElI⟩ := D.def_ 22 (d := dlI) rfl
  have blI := FunD.bindsN (ps := ["_law_thing", "_law_least", "_law_most"]) ElI fun _ _ _ _ _ _ us hl => match us, hl with | [_, _, _], _ => rfl
  have FlI := fun_of (st := s_isint) ElI
  obtain ⟨fdlD, ElD⟩ := D.def_ 23 (d := dlD) rfl
  have blD := FunD.bindsN (ps := []) ElD fun _ _ _ _ _ _ us hl => match us, hl with | [], _ => rfl
  have FlD := fun_of (st := s_deep) ElD
  obtain ⟨fdlN, ElN⟩ := D.def_ 24 (d := dlN) rfl
  have blN := FunD.bindsN (ps := ["_law_bag_here", "_law_many", "_law_rare"]) ElN fun _ _ _ _ _ _ us hl => match us, hl with | [_, _, _], _ => rfl
  have FlN := fun_of (st := s_needs) ElN
  obtain ⟨fdlR, ElR⟩ := D.def_ 25 (d := dlR) rfl
  have blR := FunD.bindsN (ps := ["_law_bag_here", "_law_most", "_law_blocks"]) ElR fun _ _ _ _ _ _ us hl => match us, hl with | [_, _, _], _ => rfl
  have FlR := fun_of (st := s_parts) ElR
  obtain ⟨fdlL, ElL⟩ := D.def_ 26 (d := dlL) rfl
  have blL := FunD.bindsN (ps := ["_law_thing", "_law_many"]) ElL fun _ _ _ _ _ _ us hl => match us, hl with | [_, _], _ => rfl
  have FlL := fun_of (st := s_lawlot) ElL
  obtain ⟨fdlW, ElW⟩ := D.def_ 27 (d := dlW) rfl
  have blW := FunD.bindsN (ps := ["_law_ask"]) ElW fun _ _ _ _ _ _ us hl => match us, hl with | [_], _ => rfl
  have FlW := fun_of (st := s_word) ElW
  obtain ⟨fdlL0, ElL0⟩ := D.def_ 28 (d := dlL0) rfl
  have blL0 := FunD.bindsN (ps := ["_law_script"]) ElL0 fun _ _ _ _ _ _ us hl => match us, hl with | [_], _ => rfl
  have FlL0 := fun_of (st := s_law) ElL0
  have NN : NumT K mg _ fdN := ⟨FN, _, _, FNt, bNt, (gm "is_integer" (by decide))⟩
  have bz := FunD.bindsA (ps := ["_law_script"]) ElL0 fun _ _ _ _ _ _ us hl => match us, hl with | [_], _ => rfl
  have m : MkB K mg (bkA K) _ _ _ _ _ _ fdI fdC fdF fdB fdN fdD := ⟨He.mkr_ok b5, FI, bI, B, Cn, T, FC, bC, (gm "check_parts" (by decide)), FF, bF, (gm "far_masks" (by decide)), FB, bB, (gm "is_number_below" (by decide)), NN, bN, (gm "is_number" (by decide)), FD, bD, (gm "is_need" (by decide)), ⟨_, _, FAre, bAre, (gm "are_blocks" (by decide))⟩⟩
  refine ⟨fdlL0, [He.cT K ("law", none)], spLaw K (He.cT K ("law", none)).2, fun p hp => by rw [List.mem_singleton.mp hp]; exact c.empty _ (List.mem_singleton.mpr rfl), fun p hp => ?_, fun p hp => ?_, fun s v => bz s [v] rfl, fun H a ns hl _ hT hS => ⟨a, ns, rfl, hS, hl, hT _ (List.mem_singleton.mpr rfl), fun _ => rfl⟩, fun base _ _ TB => ?_⟩
  · rw [List.mem_singleton.mp hp]
    exact c.out _ (List.mem_singleton.mpr rfl)
  · rw [List.mem_singleton.mp hp]
    exact PySem.W.codeHd_of_K X (c.hd _ (List.mem_singleton.mpr rfl))
  · exact ok_law FlL0 (code_of FlL0) (TB _ (List.mem_singleton.mpr rfl)) B W I m (ok_bag FlB B) FlB.kp blB (gm "_law_bag" (by decide)) (ok_some FlO B FlP blP (gm "_law_pick" (by decide))) FlO.kp blO (gm "_law_some" (by decide)) (ok_pick FlP B) FlP.kp blP (gm "_law_pick" (by decide))
      (ok_parts FlR B (fr "sorted" (by decide)) FlP blP (gm "_law_pick" (by decide)) FlO blO (gm "_law_some" (by decide)) FlN blN (gm "_law_needs" (by decide))) FlR.kp blR (gm "_law_parts" (by decide)) (ok_isint FlI B) FlI.kp blI (gm "_law_is_int" (by decide)) (ok_deep FlD B) FlD.kp blD (gm "_law_deep" (by decide)) (ok_lawlot FlL B FlI blI (gm "_law_is_int" (by decide))) FlL.kp blL (gm "_law_is_lot" (by decide))
      FlW blW (gm "_law_word" (by decide)) (ok_beneath FBe B T E0 FIc bIc (gm "is_change" (by decide)) FB bB (gm "is_number_below" (by decide)) NN bN (gm "is_number" (by decide)) FL bL (gm "lot_of" (by decide))) FBe.kp bBe (gm "beneath" (by decide)) (ok_parted FPa m E0 FIc bIc (gm "is_change" (by decide)) FMd bMd (gm "made_book" (by decide))) FPa.kp bPa (gm "parted" (by decide))
      (ok_above FAb B T E0 FIc bIc (gm "is_change" (by decide)) FB bB (gm "is_number_below" (by decide)) NN bN (gm "is_number" (by decide))) FAb.kp bAb (gm "above" (by decide)) (ok_tog FTo m E2 FIb bIb (gm "is_block" (by decide)) FMd bMd (gm "made_book" (by decide))) FTo.kp bTo (gm "put_together" (by decide)) (ok_day FDa m E1 FO bO (gm "is_lot_below" (by decide)) FL bL (gm "lot_of" (by decide)) FM bM (gm "mask_of" (by decide)) FMd bMd (gm "made_book" (by decide))) FDa.kp bDa (gm "day" (by decide))
def namesA : List PySem.Str := ["WaveError", "NoChange", "NoLot", "NoBlock", "BadBook", "is_integer", "is_number", "is_number_below", "is_lot_below", "mask_of", "lot_of", "far_masks", "MOST_CHANGES", "MOST_BLOCKS", "MOST_NEEDS", "Book", "are_blocks", "check_parts", "is_need", "made_book"]
def namesB : List PySem.Str := ["is_block", "is_change", "beneath", "above", "day", "put_together", "parted", "_law_bag", "_law_pick", "_law_some", "_law_is_int", "_law_deep", "_law_needs", "_law_parts", "_law_is_lot", "_law_word"]
abbrev R : PySem.W.OpenRow := PySem.W.OpenLaw.row PySem.Challenge.rw_ripewaves_k05_books_asked_amiss
abbrev hk : PySem.W.Hook := He.hookX 6 [] fnL [] [("law", none)] exB
def obT (s : PySem.W.SharedT) : He.AlX := He.obsX 6 [] fnL [] [("law", none)] exB (HandSHeadRun.getT s)
theorem obT_eq (s : PySem.W.SharedT) : obT s = hk.obs s.abs := He.obsX_eq (HandSHeadRun.getT_eq s)
set_option maxHeartbeats 0 in
theorem run (w : World) : HandSHeadRun.RunEq R (PySem.W.view R.prog [40]) hk obT 12000 (namesA ++ namesB) w := by
  intro os
  kernel_rfl
end Rip
open PySem PySem.W PySem.Calls PyProof.Rows
set_option maxHeartbeats 0 in
theorem PySem.Challenge.cw_ripewaves_k05_books_asked_amiss_holds : PySem.Challenge.rw_ripewaves_k05_books_asked_amiss.Holds := by
  w_on; o_law
  refine HandSHeadRun.head_any (r := Rip.R) (q := view Rip.R.prog [40]) (H := Rip.hk) (ob := Rip.obT) (M := 12000) (loose := Rip.namesA ++ Rip.namesB) (d := HandSHeadRun.topDef Rip.R.prog 40) (kwd := []) Rip.obT_eq
    (by kernel_rfl) (fun s => by kernel_rfl) Rip.run (by kernel_rfl) (by kernel_rfl) (by kernel_rfl) (by rfl) (by first | assumption | decide +kernel) (by decide +kernel) ⟨rfl, rfl, rfl, rfl, rfl, by decide +kernel⟩ ?hw ?hc
  case hw => w_witness2
  case hc =>
    refine LamX.walk_tabE (l := PySem.Challenge.rw_ripewaves_k05_books_asked_amiss) (n := 63) (k := 12) (x := "_law_script") (CX := L2.CX0) rfl (by decide) (by kernel_rfl) ⟨rfl, by decide, by decide⟩ ?F (fun _ _ _ _ z => z)
    intro w mg fa h Y G hmg0
    obtain ⟨K, KX, c⟩ := Y
    have hmg : mg ("law" : PySem.Str) = some (.ref fa) := by
      have e : (HandSHeadRun.topDef Rip.R.prog 40).name = ("law" : PySem.Str) := by kernel_rfl
      rw [← e]
      exact hmg0
    exact ⟨K, KX, Rip.all_mk (l := PySem.Challenge.rw_ripewaves_k05_books_asked_amiss) (w := w) KX G hmg c⟩

