import PyProof.Rows.All
import Wide.All
import OpenK.AllK
import Wide.FinOn
import HandS.ForMost
import HandS.ForExc
import HandS.Evl
import HandS.Flow
import HandS.SetFor
import HandS.Strs
import HandS.TupAny
import HandS.Style
import HandS.Conv
import HandS.IsInst
import HandS.ExcIs
import HandS.Wide
import KE.KIndexOf
import HandS.Dict
import HandS.TupMul
import PySem.Challenge.RW_turncoats_k02_whole_cycles_tell_orders_t
set_option Elab.async false
set_option linter.all false
set_option maxRecDepth 100000
set_option maxHeartbeats 2000000
/-! Rules of our own, where the hand layer has none. -/
namespace TC
open PySem PySem.Spec PyProof.Rows L2
section
variable {X : Cx}
/-- t.index(n), t a tuple of ints that holds n -/
def rTIdx (K : PySem.W.Frag) : V → List V → Hp → VK → Prop := fun x xs H Q => ∃ (p : Addr) (ns : List Int) (k : Int),
  x = .ref p ∧ xs = [.int k] ∧ SqT K H p (ns.map V.int) ∧ k ∈ ns ∧ Q (.int (ns.idxOf k : Nat)) H
theorem mt_tidx : MtR X "tuple.index" (rTIdx X.K) := by
  intro pins s σ H x xs v us Q I rx rs h
  obtain ⟨p, ns, k, rfl, rfl, hq, hk, q⟩ := h
  cases rx
  obtain ⟨u, rfl, ru⟩ := rs.one
  obtain ⟨t, rfl⟩ := ru
  obtain ⟨its, r, pl, hz⟩ := I.tuple hq
  have hi := ints_of_vals r
  exact PySem.SeqAt.tuple_index_ints pl hi hk ⟨.int (ns.idxOf k : Nat), H, I.tok _, ⟨_, rfl⟩, q⟩
/-- xs.count(y), flat items -/
def rCntV (K : PySem.W.Frag) : V → List V → Hp → VK → Prop := fun x xs H Q => ∃ (p : Addr) (ys : List V) (y : V),
  x = .ref p ∧ xs = [y] ∧ SqL K H p ys ∧ flatV y = true ∧ ys.all flatV = true ∧ Q (.int (ys.countP fun z => eqV z y : Nat)) H
theorem countP_eqU {x : V} : ∀ {xs : List V} {us : List Value}, Vals xs us → xs.all flatV = true → us.countP (eqU x) = xs.countP fun z => eqV z x
  | _, _, .nil, _ => rfl
  | y :: xs, u :: us, .cons r t, f => by
    simp only [List.all_cons, Bool.and_eq_true] at f
    simp only [List.countP_cons, eqU_of r f.1, countP_eqU t f.2]
theorem mt_cntV : MtR X "list.count" (rCntV X.K) := by
  intro pins s σ H x xs v us Q I rx rxs h
  obtain ⟨p, ys, y, rfl, rfl, hs, fy, fys, q⟩ := h
  cases rx
  obtain ⟨u, rfl, ru⟩ := rxs.one
  obtain ⟨its, rv, ⟨⟨cls, dd, dat, sl⟩, n, ho, hc, hdn, hd⟩, hlen⟩ := I.list hs
  simp only at hc hd
  subst hc hd
  refine call_meets PySem.F.slot_list_count ⟨_, ho, rfl⟩ PySem.F.entry_list_count (PySem.F.args_list_count_2 _ _)
    (SeqAt.list_countAt p its.toArray n dd sl u (eqU y)) ⟨ho, fun z hz => mem_eqAt ru fy rv fys z (by simpa using hz), ?_⟩
  have ec : its.toArray.toList.countP (eqU y) = ys.countP fun z => eqV z y := countP_eqU rv fys
  rw [ec]
  exact ⟨.int _, H, I.tok _, ⟨s.toks, rfl⟩, q⟩
end
/-! ### t[::-1] of a tuple -/
section
variable {prog : Program} {w : World} {A : Around} {E : Value → Shared → Prop} {s : Shared}
theorem rev_places (n : Nat) : Builtin.Slice.slicePlaces ((n : Int) - 1) (-1) (-1) = n := by
  unfold Builtin.Slice.slicePlaces
  have h1 : ¬ ((-1 : Int) > 0) := by omega
  rw [if_neg h1]
  by_cases h : n = 0
  · subst h; decide
  · have h2 : ((n : Int) - 1 > -1) := by omega
    rw [if_pos h2]
    have : ((n : Int) - 1 - -1 - 1) / (- -1) + 1 = (n : Int) := by
      rw [Int.neg_neg, Int.ediv_one]; omega
    rw [this]
    omega
theorem rev_applied {sl : Addr} {vl vu vs : Value} {n : Nat} {Q : Int × Int × Nat → Shared → Prop} (hs : s.heap.IsSliceOf sl vl vu vs) (pl : IsPart vl none) (pu : IsPart vu none) (ps : IsPart vs (some (-1)))
    (h : Q ((n : Int) - 1, -1, n) s) : wpAny (model prog w) A (Builtin.Slice.sliceApplied (.ref sl) (pure (n : Int))) Q E s := by
  obtain ⟨os, hos, hcs, hds⟩ := id hs
  unfold Builtin.Slice.sliceApplied Builtin.Slice.sliceFields
  refine wpAny_bind (wpAny_bind (wpAny_field hos hds (x := vl) rfl (wpAny_bind (wpAny_field hos hds (x := vu) rfl (wpAny_bind (wpAny_field hos hds (x := vs) rfl (wpAny_pure ?_)))))))
  refine wpAny_bind (HT.slicePart_ ps ?_)
  show wpAny _ _ (if ((-1 : Int) == 0) = true then _ else _) _ _ s
  rw [if_neg (by decide)]
  refine wpAny_bind (HT.slicePart_ pl (wpAny_bind (HT.slicePart_ pu (wpAny_bind (wpAny_pure ?_)))))
  show wpAny _ _ (pure ((n : Int) - 1, (-1 : Int), Builtin.Slice.slicePlaces ((n : Int) - 1) (-1) (-1))) _ _ s
  rw [rev_places]
  exact wpAny_pure h
theorem fm_map {α β : Type} {f : α → Option β} {g : α → β} : ∀ {l : List α}, (∀ k ∈ l, f k = some (g k)) → l.filterMap f = l.map g
  | [], _ => rfl
  | a :: l, h => by
    rw [List.filterMap_cons, h a List.mem_cons_self, List.map_cons, fm_map fun k hk => h k (List.mem_cons_of_mem _ hk)]
theorem rev_range (xs : List Value) : ((List.range xs.length).filterMap fun (k : Nat) => xs.toArray[((xs.length : Int) - 1 + (k : Int) * -1).toNat]?) = xs.reverse := by
  apply List.ext_getElem?
  intro i
  have e : ∀ k ∈ List.range xs.length, xs.toArray[((xs.length : Int) - 1 + (k : Int) * -1).toNat]? = some (xs.reverse.getD k .none) := by
    intro k hk
    have hk := List.mem_range.mp hk
    have e1 : ((xs.length : Int) - 1 + (k : Int) * -1).toNat = xs.length - 1 - k := by omega
    rw [e1]
    have h2 : k < xs.reverse.length := by simpa using hk
    rw [List.getD_eq_getElem?_getD, List.getElem?_eq_getElem h2, Option.getD_some, List.getElem_reverse]
    simp
  have e3 : ((List.range xs.length).filterMap fun (k : Nat) => xs.toArray[((xs.length : Int) - 1 + (k : Int) * -1).toNat]?) = (List.range xs.length).map fun k => xs.reverse.getD k .none := by
    exact fm_map e
  rw [e3, List.getElem?_map]
  by_cases hi : i < xs.length
  · have h2 : i < xs.reverse.length := by simpa using hi
    rw [List.getElem?_range hi, Option.map_some, List.getD_eq_getElem?_getD, List.getElem?_eq_getElem h2, Option.getD_some]
  · rw [List.getElem?_eq_none (by simpa using hi), List.getElem?_eq_none (by simpa using hi)]
    rfl
theorem getItem_tuple_rev {t sl : Addr} {its : List Value} {vl vu vs : Value} {Q : Value → Shared → Prop} (ht : IsTup s.heap t its.toArray) (hs : s.heap.IsSliceOf sl vl vu vs) (pl : IsPart vl none) (pu : IsPart vu none) (ps : IsPart vs (some (-1)))
    (h : Q (.ref s.heap.objs.size) { s with heap := s.heap.push { cls := .type "tuple", data := .seq its.reverse.toArray } })
    (hsz : its.length ≤ sizeLine) : wpAny (model prog w) A (getItem (.ref t) (.ref sl)) Q E s := by
  have hok : sizeOk (.seq its.reverse.toArray) := by
    show its.reverse.toArray.size ≤ sizeLine
    simpa using hsz
  obtain ⟨os, hos, hcs, hds⟩ := id hs
  have hTs : s.TypeIs (.ref sl) "slice" := ⟨os, hos, hcs⟩
  unfold getItem
  try with_reducible refine wpAny_holding ?_
  first | refine wpAny_bind (wpAny_pure ?_) | skip
  refine wpAny_bind (wpAny_sequenceKey ht.typeIs (by decide) ?_)
  refine wpAny_bind (wpAny_callSpecial?_slot (name := Str.ofString "__getitem__") ht.typeIs PyProof.Rows.slot_tuple_getitem
    (wpAny_call_entry PyProof.Rows.slot_tuple_getitem ht.typeIs entry_tuple_getitem ?_ (args_tuple_getitem _ _)))
  show wpAny _ _ (Builtin.Tuple.tupleItemsOf (.ref t) >>= _) _ _ s
  refine wpAny_bind (tupleItemsOf_ ht ?_)
  refine wpAny_bind (wpAny_typeOf hTs ?_)
  rw [if_pos (by decide)]
  refine wpAny_bind (rev_applied (n := its.toArray.size) hs pl pu ps ?_)
  show wpAny _ _ (if (((its.toArray.size : Int) - 1) == 0 && (-1 : Int) == 1 && its.toArray.size == its.toArray.size) = true then _ else _) _ _ s
  rw [if_neg (by simp), show its.toArray.size = its.length from List.size_toArray, rev_range]
  first
    | exact wpAny_bind (m := Builtin.Tuple.tupleExact _) (wpAny_newObj_type (wpAny_pure ⟨_, rfl, wpAny_pure h⟩) hok)
    | exact wpAny_bind (m := Builtin.Tuple.tupleExact _) (wpAny_newObj_type (wpAny_bind (wpAny_pure (wpAny_pure ⟨_, rfl, wpAny_pure h⟩))) hok)
    | exact wpAny_bind (wpAny_bind (m := Builtin.Tuple.tupleExact _) (wpAny_newObj_type (wpAny_pure (wpAny_pure ⟨_, rfl, wpAny_pure h⟩)) hok))
    | exact wpAny_bind (wpAny_bind (m := Builtin.Tuple.tupleExact _) (wpAny_newObj_type (wpAny_pure ⟨_, rfl, wpAny_pure h⟩) hok))
end
section
variable {X : Cx}
def tRevT (K : PySem.W.Frag) (te : TE) : TE := fun σ H Q => te σ H fun x H1 => ∃ a xs, x = .ref a ∧ SqT K H1 a xs ∧ ∀ p, H1 p = none → Q (.ref p) (upd H1 p (.tup xs.reverse))
theorem pe_revT {e : Expr} {te : TE} {k : Nat} {p1 p2 p3 pos : Pos} (he : PE X e te) : PE X (.Subscript e (.Slice none none (some (.UnaryOp .USub (.Constant (.int 1) k p1) p2)) p3) pos) (tRevT X.K te) := by
  refine ⟨fun pins s σ H Q I h => ?_⟩
  refine Subscript_ (thn (he.run pins s σ H _ I h) fun v s1 ⟨x, H1, I1, r1, q1⟩ => ?_)
  obtain ⟨a, xs, ex, hx, q⟩ := q1
  subst ex
  cases r1
  have hst : PO X (some (.UnaryOp .USub (.Constant (.int 1) k p1) p2)) (tPart (tUn (rU fun i => .int (-i)) (tC (.int 1)))) := po_some (pe_un un_neg pe_int)
  refine wpAny_Slice (thn (po_none.run pins s1 σ H1 (fun o H2 => o = none ∧ H2 = H1) I1 ⟨rfl, rfl⟩) fun vl s2 ⟨l, H2, I2, pl, el, e2⟩ => ?_)
  subst el e2
  refine thn (po_none.run pins s2 σ H2 (fun o H3 => o = none ∧ H3 = H2) I2 ⟨rfl, rfl⟩) fun vu s3 ⟨u, H3, I3, pu, eu, e3⟩ => ?_
  subst eu e3
  refine thn (hst.run pins s3 σ H3 (fun o H4 => o = some (-1) ∧ H4 = H3) I3 ⟨1, rfl, -1, rfl, rfl, rfl⟩) fun vs s4 ⟨o, H4, I4, ps, eo, e4⟩ => ?_
  subst eo e4
  have I5 : Inv X pins σ H4 { s4 with heap := s4.heap.push { cls := .type "slice", data := .fields #[vl, vu, vs] } } := I4.kept (t' := s4.toks) fun b ob q => Heap.get?_push_of_some _ q
  obtain ⟨its, r, ht, hz⟩ := I5.tuple hx
  have hlen := r.length
  show wpAny (model X.prog X.w) X.A (subscriptTail e (.Slice none none (some (.UnaryOp .USub (.Constant (.int 1) k p1) p2)) p3) (.ref a) (.ref s4.heap.objs.size)) (EP X pins σ Q) X.xe { s4 with heap := s4.heap.push { cls := .type "slice", data := .fields #[vl, vu, vs] } }
  refine tail_any (ops := [.ref a, .ref s4.heap.objs.size]) ht.typeIs PyProof.Rows.slot_tuple_getitem.lookup ?_ (by with_unfolding_all rfl)
  refine getItem_tuple_rev ht (Heap.IsSliceOf.new _ vl vu vs) pl pu ps ?_ (by rw [← hlen]; exact hz)
  refine ⟨.ref _, _, I5.laid (t' := s4.toks) (o := .tup xs.reverse) (fun b ob q => Heap.get?_push_of_some _ q) (Nat.le_refl _) ?_, rfl, q _ (I5.hok.fresh (Nat.le_refl _))⟩
  exact ⟨by rw [List.length_reverse]; exact hz, _, r.reverse, IsTup.new _ _⟩
end
end TC

set_option Elab.async false
set_option linter.all false
set_option maxRecDepth 100000
set_option maxHeartbeats 2000000
namespace TC
open PySem PySem.Spec PyProof.Rows L2
section
variable {prog : Program} {w : World} {A : Around} {E : Value → Shared → Prop} {s : Shared}
theorem collect_tup {l : Addr} {vs : List Value} {Q : List Value → Shared → Prop} (hl : IsTup s.heap l vs.toArray)
    (h : Q vs { s with heap := (s.heap.push (seqObj "list" #[] 0)).update s.heap.objs.size (Obj.mapSeq (· ++ vs.toArray)) }) (hsz : vs.length ≤ sizeLine) :
    wpAny (model prog w) A (collect (.ref l)) Q E s := by
  obtain ⟨o, ho, hc, n, hd⟩ := id hl
  unfold collect
  refine wpAny_bind (wpAny_runValue (codeAny_builtin entry_proto_collect' ?_))
  show wpAny _ _ (do again (.builtin "list.__iadd__" ⟨[← newList [], .ref l], []⟩)) _ _ s
  refine wpAny_bind (wpAny_newList (wpAny_pure ⟨Code.quiet_builtin _ (by decide +kernel), codeAny_builtin entry_list_iadd' ?_⟩))
  show wpAny _ _ (Builtin.List.listExtendWith (.ref s.heap.objs.size) (.ref l) (.ref s.heap.objs.size)) _ _ { s with heap := s.heap.push (seqObj "list" #[] 0) }
  unfold Builtin.List.listExtendWith
  have ho' : (s.heap.push (seqObj "list" #[] 0)).get? l = some o := Heap.get?_push_of_some _ ho
  refine wpAny_bind (wpAny_typeOf (T := "tuple") ⟨o, ho', hc⟩ ?_)
  have ht : (Value.type "tuple" == Value.type "tuple") = true := by rfl
  rw [if_pos (by rw [ht]; simp)]
  refine wpAny_bind (listItems_at ho' hd ?_)
  refine wpAny_bind (listItems_at (xs := #[]) (n := 0) (Heap.get?_push_size _ rfl) rfl ?_)
  rw [if_neg (by simp)]
  refine wpAny_bind (listUpdate_at (xs := #[]) (n := 0) (Heap.get?_push_size _ rfl) rfl ?_ (Nat.zero_le _) (by show (#[] ++ vs.toArray).size ≤ sizeLine + 1; simp only [Array.size_append, List.size_toArray, List.length_nil]; omega))
  refine wpAny_pure ?_
  show wpAny (model prog w) A (do
      let o ← load s.heap.objs.size
      match o.data with
      | .seq xs _ => pure xs.toList
      | _ => unsupported "internal:collect") Q E { s with heap := (s.heap.push (seqObj "list" #[] 0)).update s.heap.objs.size (Obj.mapSeq (· ++ vs.toArray)) }
  refine wpAny_bind (wpAny_load (get?_update_seq (Heap.get?_push_size _ rfl) _) ?_)
  show wpAny _ _ (pure ((#[] : Array Value) ++ vs.toArray).toList) Q E _
  rw [show ((#[] : Array Value) ++ vs.toArray).toList = vs by simp]
  exact wpAny_pure h
theorem sorted_intsT {l : Addr} {vs : List Value} {ns : List Int} {Q : Value → Shared → Prop} (hl : IsTup s.heap l vs.toArray) (hI : IntsAre vs ns) (h64 : vs.length < 64)
    (h : ∀ (out : Array Value) (ns' : List Int), IntsAre out.toList ns' → ns'.Perm ns → ns'.Pairwise (· ≤ ·) → Q (.ref (s.heap.objs.size + 1)) { s with heap := sortedAll s.heap vs out }) :
    wpAny (model prog w) A (call (.builtin "sorted") [.ref l]) Q E s := by
  refine Calls.call_function_entry kind_sorted plain_sorted entry_sorted (args_sorted1 _) ?_
  unfold Builtin.«sorted»
  refine wpAny_bind (m := checkCount "sorted" 1 1 _) (wpAny_pure ?_)
  refine wpAny_bind (collect_tup hl ?_ (small64 h64))
  refine wpAny_bind (wpAny_newList ?_)
  have hsz : ((s.heap.push (seqObj "list" #[] 0)).update s.heap.objs.size (Obj.mapSeq (· ++ vs.toArray))).objs.size = s.heap.objs.size + 1 := by
    rw [Heap.size_update, size_push']
  have hoL : (((s.heap.push (seqObj "list" #[] 0)).update s.heap.objs.size (Obj.mapSeq (· ++ vs.toArray))).push (seqObj "list" vs.toArray 0)).get? (s.heap.objs.size + 1) = some (seqObj "list" vs.toArray 0) := by
    rw [← hsz]; exact Heap.get?_push_size _ rfl
  show wpAny _ _ _ _ _ { s with heap := ((s.heap.push (seqObj "list" #[] 0)).update s.heap.objs.size (Obj.mapSeq (· ++ vs.toArray))).push (seqObj "list" vs.toArray 0) }
  rw [hsz]
  refine wpAny_bind (wpAny_holding (wpAny_call_entry slot_list_sort ⟨_, hoL, rfl⟩ entry_list_sort (list_sort_tree hoL hI h64 fun out ns' a1 a2 a3 => ⟨_, rfl, ?_⟩) (args_list_sort _)))
  exact wpAny_pure ⟨_, rfl, h out ns' a1 a2 a3⟩
end
/-- sorted(t), t a tuple of ints -/
def rSortedTup (K : PySem.W.Frag) : List V → Hp → VK → Prop := fun vs H Q => ∃ (a : Addr) (ns : List Int), vs = [V.ref a] ∧ SqT K H a (ns.map V.int) ∧ ns.length < 64 ∧
  ∀ (ns' : List Int) (p : Addr), ns'.Perm ns → ns'.Pairwise (· ≤ ·) → H p = none → Q (.ref p) (upd H p (.lst (ns'.map V.int)))
section
variable {X : Cx}
theorem cr_sortedTup : CallR X (.builtin "sorted") (rSortedTup X.K) := by
  intro pins s σ H vs us Q I r h
  obtain ⟨a, ns, rfl, hs, h64, q⟩ := h
  obtain ⟨its, rv, hl, _⟩ := I.tuple hs
  rw [Vals.ref1 r]
  have hi := rv.ints
  refine sorted_intsT hl hi (by rw [hi.length]; exact h64) fun out ns' h1 h2 h3 => ?_
  obtain ⟨ep, he'⟩ := PyProof.Rows.sortedAll_at s.heap its out
  have hlen : (ns'.map V.int).length ≤ sizeLine := by rw [List.length_map, h2.length_eq]; exact small64 h64
  exact ⟨.ref _, upd H (s.heap.objs.size + 1) (.lst (ns'.map V.int)), I.laid (t' := s.toks) (fun _ _ => PyProof.Rows.sortedAll_old) (Nat.le_succ _) ⟨hlen, out.toList, ep, vals_of_ints h1, he'⟩, rfl, q ns' _ h2 h3 (I.hok.fresh (Nat.le_succ _))⟩
end
end TC

set_option Elab.async false
set_option linter.all false
set_option maxRecDepth 100000
set_option maxHeartbeats 2000000
namespace TC
open PySem PySem.Spec PyProof.Rows L2
/-- at a stands an exception of the class cls -/
def ExcAt (a : Addr) (cls : Value) (d : Option Addr) : Heap → Prop := fun h => ∃ o vs, h.get? a = some o ∧ Zc cls d o ∧ o.data = .fields vs
theorem ExcAt.steady {a : Addr} {cls : Value} {d : Option Addr} : ∀ h1 h2 : Heap, ExcAt a cls d h1 → (∀ o, h1.get? a = some o → h2.get? a = some o) → ExcAt a cls d h2 :=
  fun _ _ ⟨o, vs, h, z, q⟩ k => ⟨o, vs, k o h, z, q⟩
section
variable {X : Cx} {pins : List (Addr × Obj)} {σ : L2.St} {H : Hp} {s : Shared}
theorem track {a : Addr} {o : Obj} {φ : Heap → Prop} (I : Inv X pins σ H s) (ha : s.heap.get? a = some o) (na : H a = none) (n0 : X.s_0.heap.get? a = none) (nL : a ≠ X.env.locals)
    (nc : ∀ x c, X.env.cells.lookup x = some c → c ≠ a) (np : ∀ p ∈ X.pn ++ pins, p.1 ≠ a) (hφ : φ s.heap) (st : ∀ h1 h2 : Heap, φ h1 → (∀ o, h1.get? a = some o → h2.get? a = some o) → φ h2) :
    Inv X pins σ (upd H a (.ext φ)) s := by
  have ne : ∀ {b : Addr} {u : HO}, H b = some u → b ≠ a := fun e z => by rw [z, na] at e; cases e
  have keep : ∀ {b : Addr} {u : HO}, H b = some u → upd H a (.ext φ) b = some u := fun e => by rw [upd_ne (ne e)]; exact e
  have n0' : ∀ {b : Addr} {o : Obj}, X.s_0.heap.get? b = some o → b ≠ a := fun e z => by rw [z, n0] at e; cases e
  refine ⟨I.ok, I.os, I.bare, ⟨I.base.keep, I.base.slot, fun b ob e n hx => ?_, I.base.there, fun b xs e => keep (I.base.tups b xs e), fun b ob u e => keep (I.base.frzs b ob u e), fun b ps e => ?_⟩, I.loc, I.cell, ?_, fun x c e => ?_, fun p hp => ?_, fun b u e => ?_, I.len⟩
  · rw [upd_ne (n0' e)]; exact I.base.free b ob e n hx
  · obtain ⟨m, q⟩ := I.base.tbls b ps e
    exact ⟨m, keep q⟩
  · rw [upd_ne (Ne.symm nL)]; exact I.free
  · rw [upd_ne (nc x c e)]; exact I.freeC x c e
  · obtain ⟨h1, h2, h3, h4, h5⟩ := I.pin p hp
    exact ⟨h1, by rw [upd_ne (np p hp)]; exact h2, h3, h4, h5⟩
  · by_cases hb : b = a
    · subst hb
      rw [upd_same] at e
      cases e
      exact ⟨hφ, ⟨o, ha⟩, st⟩
    · rw [upd_ne hb] at e
      exact (I.hok b u e).stay (fun _ _ _ q => q) (fun _ q => keep q) fun _ _ q => keep q
end
def wHold (K : PySem.W.Frag) (c : Value) (i : Nat) (ts : Addr → Value → Option Addr → TS) (Wout : WX) (D : Ends) : WX := fun cls d σ H =>
  ∃ b, PySem.W.exmOne K cls c = some b ∧ (b = true → ∀ a, H a = none → ts a cls d { nx := fun σ' H' => D.nx (σ'.set i none) (upd H' a (.ext (ExcAt a cls d))), rt := fun _ _ => False } (σ.set i (some (.ref a))) H) ∧
    (b = false → Wout cls d σ H)
section
variable {X : Cx} {x n : Str} {c : Value} {i : Nat} {body suite : List Stmt} {b₀ : Stmt} {np pos pos' : Pos} {tb : WX → TS} {ts : Addr → Value → Option Addr → TS} {Wout : WX}
/-- try: body / except x as n: suite; the exception stays known behind it -/
theorem ps_try_hold (hs : X.stack = X.env :: X.outer) (hf : X.env.frame = some X.env.locals) (hN : X.N.Nodup) (hi : X.N[i]? = some n) (hln : X.env.kindOf n = some .local) (hex : X.ex = []) (hc : Names X x c) (tk : Takes X Wout)
    (hb : ∀ (W : WX) (pn : List (Addr × Obj)) (xe : Value → Shared → Prop), Takes (X.tr pn xe) W → PassesOwn (model X.prog X.w) X.A X.env xe → PSs (X.tr pn xe) body (tb W))
    (hsu : ∀ (a : Addr) (oe : Obj) (cls : Value) (d : Option Addr) (pn : List (Addr × Obj)), Zc cls d oe → (∃ vs, oe.data = .fields vs) → PSs (X.suite a ((a, oe) :: pn)) (b₀ :: suite) (ts a cls d)) :
    PS X (.Try body [.ExceptHandler (some (.Name x np)) (some n) (b₀ :: suite) pos'] [] [] pos) (fun D σ H => tb (wHold X.K c i ts Wout D) D σ H) := by
  refine ⟨fun pins s σ H D I h => ?_⟩
  have ok := I.ok
  have hfr : X.A.frames = some (X.env :: X.outer) := by rw [ok.frames, hs]
  have hloc : Loc X.env.scope n := .inl hln
  refine wpAny_Try_except ?_
  refine wpAny_mono ((hb (wHold X.K c i ts Wout D) (X.pn ++ pins) (fun e s₁ => wpAny (model X.prog X.w) X.A (noteFrame e X.env) (fun _ s₂ => wpAny (model X.prog X.w) X.A (setFlight e none) (fun _ s₃ =>
    wpAny (model X.prog X.w) X.A (handleBy e X.env [.ExceptHandler (some (.Name x np)) (some n) (b₀ :: suite) pos']) (SP X pins D) X.xe s₃) X.xe s₂) X.xe s₁) (fun u s' xx => ?_) PassesOwn.looking).run [] s σ H D (I.toTry _) h) (fun f s1 hsp => ?_) (fun e s1 he => he)
  · obtain ⟨a, B, sI, pins', σ', H', cls, d, rfl, J', nb, up, sky, na, os, ag, b, hb1, hyes, hno⟩ := xx
    have J : Inv X pins σ' H' sI := J'.ofTry ok
    have sky' : Sky B (X.env :: X.outer) a (Zc cls d) X.env.locals s'.heap := by rw [← hs]; exact sky
    show wpAny (model X.prog X.w) X.A (noteFrame (.ref a) X.env) _ _ _
    refine Sky.land Zc.steady hfr hf sky' fun h3 fl3 up3 => ?_
    have J3 : Inv X pins σ' H' { s' with heap := h3 } := J.landed nb fl3.1 (up.trans up3) os ag
    obtain ⟨oe3, vs3, he3, hz3, hd3⟩ := fl3.there
    have notFr : ∀ {h : Heap} {o : Obj} {vs : Array Value}, h.FunFrames B (X.env :: X.outer) → h.get? a = some o → o.data = .fields vs → a ∉ frs (X.env :: X.outer) := fun {h o vs} ff e dd hm => by
      obtain ⟨_, o', e', hnf⟩ := ff.mem hm
      rw [e] at e'; cases e'
      exact hnf _ dd
    have nfr := notFr fl3.2.2.1 he3 hd3
    have nL : a ≠ X.env.locals := fun z => nfr (List.mem_filterMap.mpr ⟨X.env, List.mem_cons_self, by rw [hf, z]⟩)
    have nF : a ∉ X.fs := fun hm => by
      obtain ⟨e, he, q⟩ := List.mem_filterMap.mp hm
      exact nfr (List.mem_filterMap.mpr ⟨e, List.mem_cons_of_mem _ he, q⟩)
    -- it is new
    have nI : sI.heap.get? a = none := by
      cases q : sI.heap.get? a with
      | none => rfl
      | some o =>
        have z := nb a o q (by rw [hs]; exact nfr)
        rw [fl3.2.1] at z; cases z
    have n0 : X.s_0.heap.get? a = none := by
      cases q : X.s_0.heap.get? a with
      | none => rfl
      | some o =>
        obtain ⟨o', z⟩ := J.base.there a o q (by rw [hex]; exact List.not_mem_nil)
        rw [nI] at z; cases z
    have npin : ∀ p ∈ X.pn ++ pins, p.1 ≠ a := fun p hp z => by
      have q := (J.pin p hp).1
      rw [z, nI] at q; cases q
    have ncell : ∀ y cc, X.env.cells.lookup y = some cc → cc ≠ a := fun y cc e z => by
      obtain ⟨v, o, ho, hd⟩ := J.cell y cc e
      rw [z, nI] at ho; cases ho
    have S3 := J3.suite he3 hd3 na nL nF
    refine wpAny_handleBy_cons (codeAny_handlers_test ?_) (by intro q; cases q)
    have LT : PySem.W.Looks (model X.prog X.w) h3 (typeOf (.ref a)) cls := fun A Q E s k q => wpAny_typeOf_ref (k _ _ he3) (by rw [hz3.1]; exact q)
    have LM := PySem.W.exm_one (M := model X.prog X.w) (J3.kIn) LT hb1
    have test : ∀ {Q : Value → Shared → Prop} {E : Value → Shared → Prop}, Q c { s' with heap := h3 } → wpAny (model X.prog X.w) (X.A.mark (some (.ref a))) (eval (.Name x np) X.env) Q E { s' with heap := h3 } := fun {Q E} q => by
      obtain ⟨hg, hdbg, hm | ⟨hm, hv, hnn⟩⟩ := hc
      · exact ld_glob (X := X.suite a ((a, oe3) :: (X.pn ++ pins))) S3 hg hm q hdbg
      · exact ld_blt (X := X.suite a ((a, oe3) :: (X.pn ++ pins))) S3 hg hm hv q hnn hdbg
    refine test (LM.here ?_)
    cases b with
    | true =>
      refine codeAny_handlers_suite_as ?_
      refine HandSPX.lands_againZ fl3 fun h4 fl4 up4 => ?_
      have J4 : Inv X pins σ' H' { s' with heap := h4 } := J.landed nb fl4.1 ((up.trans up3).trans up4) os ag
      obtain ⟨oe4, vs4, he4, hz4, hd4⟩ := fl4.there
      have S4 := J4.suite he4 hd4 na nL nF
      refine store_ok (X := X.suite a ((a, oe4) :: (X.pn ++ pins))) (v := .ref a) S4 hN hi hloc rfl (fun s5 S5 => ?_) (.inr hln)
      refine wpAny_mono ((hsu a oe4 cls d (X.pn ++ pins) hz4 ⟨_, hd4⟩).run [] s5 _ H' _ S5 (hyes rfl a na)) (fun f s6 hsp => ?_) (fun _ _ z => False.elim z)
      cases f with
      | next =>
        obtain ⟨σ6, H6, S6, q6⟩ := hsp
        obtain ⟨hget, hnone, _, _, _⟩ := S6.pin (a, oe4) (List.mem_append.mpr (.inl List.mem_cons_self))
        have T6 := track (S6.unsuite ok) hget hnone n0 nL ncell npin (φ := ExcAt a cls d) ⟨oe4, _, hget, hz4, hd4⟩ ExcAt.steady
        exact gone_ok T6 hN hi hln fun s7 J7 => ⟨_, _, J7, q6⟩
      | brk =>
        obtain ⟨σ6, H6, S6, q6⟩ := hsp
        exact q6.elim
      | cont =>
        obtain ⟨σ6, H6, S6, q6⟩ := hsp
        exact q6.elim
      | ret u =>
        obtain ⟨v6, σ6, H6, S6, r6, q6⟩ := hsp
        exact q6.elim
    | false =>
      show wpAny _ X.A (handleBy (.ref a) X.env []) _ _ _
      refine wpAny_handleBy_nil ?_
      obtain ⟨k1, k2, k3, oe, vs, T, oT, ts', he, hz, hd, h1, hr⟩ := id fl3
      unfold PySem.passOn
      refine wpAny_bind (wpAny_field he hd h1 ?_)
      rw [if_neg (show ¬ ((Value.ref T == Value.none) = true) from by simp)]
      have fin : wpAny (model X.prog X.w) X.A (setFlight (.ref a) X.env.frame) (fun _ s4 => wpAny (model X.prog X.w) X.A (throw (.ref a) : Sem Flow) (SP X pins D) X.xe s4) X.xe { s' with heap := h3 } := by
        rw [hf]
        refine HandSPX.setFlight_upZ fl3 fun h4 hh4 up4 => wpAny_throw (tk _ _ ?_)
        exact ⟨a, B, sI, pins, σ', H', cls, d, rfl, J, nb, (up.trans up3).trans up4, .inr (.inr (by rw [hs]; exact hh4)), na, os, ag, hno rfl⟩
      first
        | exact wpAny_bind (wpAny_pure (wpAny_bind fin))
        | exact wpAny_bind fin
  · cases f with
    | next =>
      obtain ⟨σ', H', J', q⟩ := hsp
      exact wpAny_execs_nil ⟨σ', H', J'.ofTry ok, q⟩
    | brk =>
      obtain ⟨σ', H', J', q⟩ := hsp
      exact ⟨σ', H', J'.ofTry ok, q⟩
    | cont =>
      obtain ⟨σ', H', J', q⟩ := hsp
      exact ⟨σ', H', J'.ofTry ok, q⟩
    | ret u =>
      obtain ⟨v, σ', H', J', r, q⟩ := hsp
      exact ⟨v, σ', H', J'.ofTry ok, r, q⟩
end
/-- isinstance of what was held -/
def rIsH (K : PySem.W.Frag) : List V → Hp → VK → Prop := fun xs H Q => ∃ (a D : Addr) (c : V) (cv : Value) (b : Bool), xs = [.ref a, c] ∧ H a = some (.ext (ExcAt a (.ref D) none)) ∧ ExcC K D ∧ ClsV c cv ∧ PySem.W.kitOne K (.ref D) cv = some b ∧ Q (.bl b) H
theorem call_isH {X : Cx} : CallR X (.builtin "isinstance") (rIsH X.K) := by
  intro pins s σ H xs us Q I r h
  obtain ⟨a, D, c, cv, b, rfl, hH, C, hcv, e, q⟩ := h
  cases r with
  | cons rx rr =>
    cases rr with
    | cons rt rr =>
      cases rr
      cases rx
      have ec := hcv.eq rt
      subst ec
      obtain ⟨⟨o, vs, hget, hz, hv⟩, _, _⟩ := (show ObjOk X.prog X.w H s.heap a (.ext (ExcAt a (.ref D) none)) from I.hok a _ hH)
      have J : PySem.W.InstAt s.heap a o D none := by
        obtain ⟨oc, od, oda, osl⟩ := o
        obtain ⟨h1, h2⟩ := hz
        dsimp only at h1 h2 hv
        subst h1 h2 hv
        exact ⟨hget, rfl, rfl, trivial⟩
      exact PySem.W.kia_one (PySem.W.handS_kitx_exc C.hg C.hk C.hs C.hd C.ha C.hn C.ht C.hm) I.kIn J e (fun z => nomatch z) fun tk => ⟨.bl b, H, I.kept (t' := tk) fun _ _ z => z, rfl, q⟩
/-- isinstance of anything -/
def rIsAny (K : PySem.W.Frag) : List V → Hp → VK → Prop := fun xs H Q => rIsi K xs H Q ∨ rIsH K xs H Q
theorem call_isAny {X : Cx} : CallR X (.builtin "isinstance") (rIsAny X.K) := by
  intro pins s σ H xs us Q I r h
  rcases h with h | h
  · exact call_isi pins s σ H xs us Q I r h
  · exact call_isH pins s σ H xs us Q I r h
end TC

set_option Elab.async false
set_option linter.all false
set_option maxRecDepth 100000
set_option maxHeartbeats 2000000
/-! Tuples whose object is known: their methods can be looked up. -/
namespace TC
open PySem PySem.Spec PyProof.Rows L2
def TupD (K : PySem.W.Frag) (H : Hp) (a : Addr) (xs : List V) : Prop := (∃ o, H a = some (.frz o (.tup xs)) ∧ o.dict = none) ∨
  ∃ (o : Obj) (its : Array Value) (n : Nat), K.lookup a = some o ∧ o.cls = .type "tuple" ∧ o.dict = none ∧ o.data = .seq its n ∧ its.size ≤ sizeLine ∧ Vals xs its.toList
theorem TupD.sq {K : PySem.W.Frag} {H : Hp} {a : Addr} {xs : List V} (h : TupD K H a xs) : SqT K H a xs := by
  rcases h with ⟨o, h, _⟩ | ⟨o, its, n, h1, h2, h3, h4, h5, h6⟩
  · exact .inl (.inr ⟨o, h⟩)
  · exact .inr ⟨o, its, n, h1, h2, h4, h5, h6⟩
/-- a new tuple with what is there: for every place, for some object without a dict -/
def NewT (xs : List V) (H : Hp) (Q : VK) : Prop := ∀ p o, H p = none → o.dict = none → Q (.ref p) (upd H p (.frz o (.tup xs)))
section
variable {X : Cx} {pins : List (Addr × Obj)} {σ : L2.St} {H : Hp} {s : Shared}
theorem newT_ok {xs : List V} {us : List Value} {Q : VK} (I : Inv X pins σ H s) (r : Vals xs us) (hz : xs.length ≤ sizeLine) (q : NewT xs H Q) :
    EP X pins σ Q (.ref s.heap.objs.size) { s with heap := s.heap.push { cls := .type "tuple", data := .seq us.toArray } } := by
  have hg : (s.heap.push { cls := .type "tuple", data := .seq us.toArray }).get? s.heap.objs.size = some { cls := .type "tuple", data := .seq us.toArray } := Heap.get?_push_size _ rfl
  exact ⟨.ref s.heap.objs.size, _, I.laid (t' := s.toks) (o := .frz { cls := .type "tuple", data := .seq us.toArray } (.tup xs)) (fun b u e => Heap.get?_push_of_some _ e) (Nat.le_refl _) ⟨hg, hz, us, r, ⟨_, hg, rfl, _, rfl⟩⟩, rfl, q _ _ (I.hok.fresh (Nat.le_refl _)) rfl⟩
variable {es : List Expr} {a b e o : Expr} {pos p : Pos} {ta tb te : TE} {t : TA}
def tTupF (t : TA) : TE := fun σ H Q => t σ H fun xs H1 => xs.length ≤ sizeLine ∧ NewT xs H1 Q
theorem pe_tupF {x1 : Nat} (h : PA X es t) : PE X (.Tuple es x1 pos) (tTupF t) := by
  refine ⟨fun pins s σ H Q I hq => ?_⟩
  exact wpAny_Tuple_spliced (thn (h.run pos pins s σ H _ I hq) fun us s1 ⟨xs, H1, I1, r, z, q⟩ => ⟨by rw [← r.length]; exact z, newT_ok I1 r z q⟩)
def rCatF (K : PySem.W.Frag) : R2 := fun x y H Q => ∃ a b xs ys, x = .ref a ∧ y = .ref b ∧ SqT K H a xs ∧ SqT K H b ys ∧ xs.length + ys.length ≤ sizeLine ∧
  (xs = [] → Q (.ref b) H) ∧ (xs ≠ [] → ys = [] → Q (.ref a) H) ∧ (xs ≠ [] → ys ≠ [] → NewT (xs ++ ys) H Q)
theorem op_catF : OpR X (binaryOp .Add) (rCatF X.K) := by
  intro pins s σ H x y v u Q I rx ry h
  obtain ⟨a, b, xs, ys, rfl, rfl, ha, hb, hz, q0, q1, q2⟩ := h
  by_cases hx : xs = []
  · exact op_catA pins s σ H _ _ v u Q I rx ry ⟨a, b, xs, ys, rfl, rfl, ha, hb, hz, q0, fun z => absurd hx z, fun z => absurd hx z⟩
  · cases rx
    cases ry
    obtain ⟨its, r1, p1, _⟩ := I.tuple ha
    obtain ⟨its2, r2, p2, _⟩ := I.tuple hb
    refine HT.cat_tup p1 p2 (fun z => hx (r1.nil_iff.mp z)) (fun z => ⟨.ref a, H, I, rfl, q1 hx (r2.nil_iff.mp z)⟩) (fun z => ?_) (by rw [← r1.length, ← r2.length]; exact hz)
    exact newT_ok I (r1.append r2) (by rw [List.length_append]; exact hz) (q2 hx fun w => z (r2.nil_iff.mpr w))
def rSlF (K : PySem.W.Frag) : V → Option Int → Option Int → Hp → VK → Prop := fun x lo hi H Q => ∃ a xs, x = .ref a ∧ SqT K H a xs ∧
  (HT.sIx xs.length 0 lo = 0 ∧ HT.sIx xs.length xs.length hi = xs.length → Q (.ref a) H) ∧ (¬ (HT.sIx xs.length 0 lo = 0 ∧ HT.sIx xs.length xs.length hi = xs.length) → NewT (cutV xs lo hi) H Q)
theorem sl_tupF : SlR X (rSlF X.K) := by
  intro pins s σ H x v vl vu lo hi sl Q I rx hs pl pu h
  obtain ⟨a, xs, rfl, hx, q1, q2⟩ := h
  by_cases hw : HT.sIx xs.length 0 lo = 0 ∧ HT.sIx xs.length xs.length hi = xs.length
  · exact sl_tupA pins s σ H _ v vl vu lo hi sl Q I rx hs pl pu ⟨a, xs, rfl, hx, q1, fun z => absurd hw z⟩
  · cases rx
    obtain ⟨its, r, ht, hz⟩ := I.tuple hx
    have hlen : its.toArray.size = xs.length := by rw [List.size_toArray]; exact r.length.symm
    refine ⟨"tuple", _, PyProof.Rows.slot_tuple_getitem.lookup, ht.typeIs, ?_⟩
    refine HT.getItem_tuple_cut ht hs pl pu (by rw [hlen]; exact hw) ?_ (by rw [hlen]; exact hz)
    rw [hlen]
    exact newT_ok I ((r.drop (HT.sIx xs.length 0 lo)).take (HT.sIx xs.length xs.length hi - HT.sIx xs.length 0 lo)) (Nat.le_trans (cutV_length xs lo hi) hz) (q2 hw)
def tRevF (K : PySem.W.Frag) (te : TE) : TE := fun σ H Q => te σ H fun x H1 => ∃ a xs, x = .ref a ∧ SqT K H1 a xs ∧ NewT xs.reverse H1 Q
theorem pe_revF {k : Nat} {p1 p2 p3 : Pos} (he : PE X e te) : PE X (.Subscript e (.Slice none none (some (.UnaryOp .USub (.Constant (.int 1) k p1) p2)) p3) pos) (tRevF X.K te) := by
  refine ⟨fun pins s σ H Q I h => ?_⟩
  refine Subscript_ (thn (he.run pins s σ H _ I h) fun v s1 ⟨x, H1, I1, r1, q1⟩ => ?_)
  obtain ⟨a, xs, ex, hx, q⟩ := q1
  subst ex
  cases r1
  have hst : PO X (some (.UnaryOp .USub (.Constant (.int 1) k p1) p2)) (tPart (tUn (rU fun i => .int (-i)) (tC (.int 1)))) := po_some (pe_un un_neg pe_int)
  refine wpAny_Slice (thn (po_none.run pins s1 σ H1 (fun o H2 => o = none ∧ H2 = H1) I1 ⟨rfl, rfl⟩) fun vl s2 ⟨l, H2, I2, pl, el, e2⟩ => ?_)
  subst el e2
  refine thn (po_none.run pins s2 σ H2 (fun o H3 => o = none ∧ H3 = H2) I2 ⟨rfl, rfl⟩) fun vu s3 ⟨u, H3, I3, pu, eu, e3⟩ => ?_
  subst eu e3
  refine thn (hst.run pins s3 σ H3 (fun o H4 => o = some (-1) ∧ H4 = H3) I3 ⟨1, rfl, -1, rfl, rfl, rfl⟩) fun vs s4 ⟨o, H4, I4, ps, eo, e4⟩ => ?_
  subst eo e4
  have I5 : Inv X pins σ H4 { s4 with heap := s4.heap.push { cls := .type "slice", data := .fields #[vl, vu, vs] } } := I4.kept (t' := s4.toks) fun b ob q => Heap.get?_push_of_some _ q
  obtain ⟨its, r, ht, hz⟩ := I5.tuple hx
  have hlen := r.length
  show wpAny (model X.prog X.w) X.A (subscriptTail e (.Slice none none (some (.UnaryOp .USub (.Constant (.int 1) k p1) p2)) p3) (.ref a) (.ref s4.heap.objs.size)) (EP X pins σ Q) X.xe { s4 with heap := s4.heap.push { cls := .type "slice", data := .fields #[vl, vu, vs] } }
  refine tail_any (ops := [.ref a, .ref s4.heap.objs.size]) ht.typeIs PyProof.Rows.slot_tuple_getitem.lookup ?_ (by with_unfolding_all rfl)
  refine getItem_tuple_rev ht (Heap.IsSliceOf.new _ vl vu vs) pl pu ps ?_ (by rw [← hlen]; exact hz)
  exact newT_ok I5 r.reverse (by rw [List.length_reverse]; exact hz) q
def rTupOf (K : PySem.W.Frag) : List V → Hp → VK → Prop := fun xs H Q => ∃ p ys, xs = [.ref p] ∧ ((SqL K H p ys ∧ NewT ys H Q) ∨ (SqT K H p ys ∧ Q (.ref p) H))
theorem call_tupOf : CallR X (.type "tuple") (rTupOf X.K) := by
  intro pins s σ H xs us Q I r h
  obtain ⟨p, ys, rfl, h⟩ := h
  obtain ⟨u, rfl, rx⟩ := vals1 r
  cases rx
  rcases h with ⟨hq, q⟩ | ⟨hq, q⟩
  · obtain ⟨its, r', pl, hz⟩ := I.list hq
    have hlen := r'.length
    refine call_tuple_list pl.isList (fun h' kp => ?_) (by simp only [List.size_toArray] <;> omega)
    have I1 : Inv X pins σ H { s with heap := h' } := I.kept (t' := s.toks) kp
    exact newT_ok I1 r' hz q
  · obtain ⟨its, r', pl, hz⟩ := I.tuple hq
    exact call_tuple_same pl ⟨.ref p, H, I, rfl, q⟩
def tTupRgF (te : L2.St → Hp → (Int → Int → Hp → Prop) → Prop) : TE := fun σ H Q => te σ H fun a b H1 => RgOk a b ∧ NewT (rgV a b) H1 Q
theorem pe_tupRgF {te : L2.St → Hp → (Int → Int → Hp → Prop) → Prop} (hc : X.calm = true) (hg : Gl X "tuple") (hm : X.mg "tuple" = none) (he : PRg X e te) (na : starEach [e] X.env = (false, eval e X.env) :: starEach [] X.env := by rfl) : PE X (.Call (.Name "tuple" p) [e] [] pos) (tTupRgF te) := by
  refine ⟨fun pins s σ H Q I h => ?_⟩
  refine Call_ (ld_blt I hg hm boot_tuple (PyProof.Rows.callWith_type1 (args_cons (thn (he pins s σ H _ I h) fun x s1 ⟨r, a, b, t, u, v, H1, ex, hr, I1, ok, q⟩ => args_nil ?_) na) na))
  subst ex
  obtain ⟨b1, b2, b3, b4, b5⟩ := ok
  refine call_tuple_range (n := (b - a).toNat) (I1.ok.hd hc) hr (small_one b1 b2 b3 b4) (rangeSize_nat a b) b5 fun h' tk acc hk hi => ?_
  have I2 : Inv X pins σ H1 { s1 with heap := h', toks := tk } := I1.kept hk
  have q2 := newT_ok I2 (vals_rg hi) (by rw [rgV_length, sizeLine_eq]; omega) q
  rw [Array.toArray_toList] at q2
  exact q2
/-- methods of such a tuple -/
def tyT (K : PySem.W.Frag) (x : V) (H : Hp) : Prop := ∃ p xs, x = .ref p ∧ TupD K H p xs
theorem tyT_is {x : V} {v : Value} (I : Inv X pins σ H s) (r : RelV x v) (ty : tyT X.K x H) : s.TypeIs v "tuple" ∧ ∀ a, v = .ref a → ∃ ob, s.heap.get? a = some ob ∧ ob.dict = none := by
  obtain ⟨p, xs, rfl, h⟩ := ty
  cases r
  rcases h with ⟨o, h, hd⟩ | ⟨o, its, n, h1, h2, h3, _⟩
  · obtain ⟨e, ho⟩ := (show ObjOk X.prog X.w H s.heap p (.frz o (.tup xs)) from I.hok p _ h)
    obtain ⟨_, its, _, p2⟩ := ho
    refine ⟨p2.typeIs, fun a e2 => ?_⟩
    cases e2
    exact ⟨o, e, hd⟩
  · refine ⟨⟨o, I.kIn p o h1, h2⟩, fun a e2 => ?_⟩
    cases e2
    exact ⟨o, I.kIn _ o h1, h3⟩
def tBT (K : PySem.W.Frag) (r : V → List V → Hp → VK → Prop) (to : TE) (t : TA) : TE := fun σ H Q => to σ H fun x H1 => tyT K x H1 ∧ t σ H1 fun xs H2 => r x xs H2 Q
theorem pe_bt {to : TE} {name : Str} {apos cpos : Pos} {id : String} {r : V → List V → Hp → VK → Prop} (pa : PlainAttrs "tuple") (slot : Slot "tuple" name id) (hty : typeOf (.builtin id) = pure (.type "method_descriptor")) (hm : MtR X id r) (ho : PE X o to) (ha : PA X (e :: es) t)
    (hbase : attributeBase o name X.env (eval o X.env) = eval o X.env := by rfl)
    (hfew : ((backTo cpos (starEach (e :: es) X.env)).all (fun x => !x.1) && (backToKw cpos (keywordEach [] X.env)).all (fun x => x.1.isSome)
      && decide ((e :: es).length + ([] : List Keyword).length + (if ([] : List Keyword).isEmpty then 0 else 1) < 30)) = true := by rfl)
    (hline : (apos.endLine == cpos.line) = true := by rfl) (hs : starEach (e :: es) X.env = (false, eval e X.env) :: starEach es X.env := by rfl) (hplain : (backTo cpos (starEach es X.env)).any (·.1) = false := by rfl) :
    PE X (.Call (.Attribute o name apos) (e :: es) [] cpos) (tBT X.K r to t) := by
  refine ⟨fun pins s σ H Q I h => ?_⟩
  refine wpAny_Call_method_late hbase hfew hline rfl (thn (ho.run pins s σ H _ I h) fun v s1 ⟨x, H1, I1, r1, ty, q1⟩ => ?_)
  obtain ⟨h1, h2⟩ := tyT_is I1 r1 ty
  refine ⟨"tuple", id, pa, slot, hty, h1, h2, ?_⟩
  have hA := ha.run cpos pins s1 σ H1 _ I1 q1
  rw [hs] at hA ⊢
  refine Calls.callWith_builtin (by show (false || (backTo cpos (starEach es X.env)).any (·.1)) = false; rw [hplain] <;> rfl) (Calls.evalArgs_plain ?_)
  exact thn hA fun us s2 ⟨vs, H2, I2, r2, q2⟩ => hm pins s2 σ H2 x vs v us Q I2 r1 r2 q2
end
end TC

set_option Elab.async false
set_option linter.all false
set_option maxRecDepth 100000
set_option maxHeartbeats 2000000
/-! The data level: what values are, without the heap; mutable things by number. -/
namespace TC
open PySem PySem.Spec PyProof.Rows L2

inductive D where
  | non | bl (b : Bool) | int (i : Int) | str (x : Str)
  | tup (ds : List D) | lst (ds : List D)
  | dk (ks : List Key) (ds : List D) | dt (ks : List (List Key)) (ds : List D)
  | scr (ns : List Int) | ty (n : String) | own (a : Addr) | exc (C : Addr) | mt (k : Nat) | st

inductive Cell where
  | dead | lst (ds : List D) | dk (ks : List Key) (ds : List D) | dt (ks : List (List Key)) (ds : List D)

abbrev Sts := Option (Addr × Addr)

mutual
inductive Is (K : PySem.W.Frag) (S : Sts) (α : List Addr) (G : Hp) : D → V → Prop
  | non : Is K S α G .non .non
  | bl (b : Bool) : Is K S α G (.bl b) (.bl b)
  | int (i : Int) : Is K S α G (.int i) (.int i)
  | str (x : Str) : Is K S α G (.str x) (.str x)
  | tup {a : Addr} {xs : List V} {ds : List D} : TupD K G a xs → Iss K S α G ds xs → Is K S α G (.tup ds) (.ref a)
  | lst {a : Addr} {xs : List V} {ds : List D} : G a = some (.lst xs) → Iss K S α G ds xs → Is K S α G (.lst ds) (.ref a)
  | scr {a : Addr} {ns : List Int} : SqL K G a (ns.map V.int) → Is K S α G (.scr ns) (.ref a)
  | dk {a : Addr} {xs : List V} {ks : List Key} {ds : List D} : G a = some (.dK (ks.zip xs)) → ks.length = xs.length → Iss K S α G ds xs → Is K S α G (.dk ks ds) (.ref a)
  | dt {a : Addr} {xs : List V} {ks : List (List Key)} {ds : List D} : G a = some (.dT (ks.zip xs)) → ks.length = xs.length → Iss K S α G ds xs → Is K S α G (.dt ks ds) (.ref a)
  | ty (n : String) : Is K S α G (.ty n) (.ty n)
  | own (a : Addr) : Is K S α G (.own a) (.ref a)
  | exc {a C : Addr} : G a = some (.ext (ExcAt a (.ref C) none)) → Is K S α G (.exc C) (.ref a)
  | mt {a : Addr} {k : Nat} : α[k]? = some a → Is K S α G (.mt k) (.ref a)
  | st {s c : Addr} : S = some (s, c) → Is K S α G .st (.ref s)
inductive Iss (K : PySem.W.Frag) (S : Sts) (α : List Addr) (G : Hp) : List D → List V → Prop
  | nil : Iss K S α G [] []
  | cons {d : D} {v : V} {ds : List D} {vs : List V} : Is K S α G d v → Iss K S α G ds vs → Iss K S α G (d :: ds) (v :: vs)
end

def Ex (G G' : Hp) : Prop := ∀ a o, G a = some o → G' a = some o
theorem Ex.refl (G : Hp) : Ex G G := fun _ _ h => h
theorem Ex.trans {G G1 G2 : Hp} (a : Ex G G1) (b : Ex G1 G2) : Ex G G2 := fun x o h => b x o (a x o h)
theorem Ex.rd {G G' : Hp} {a : Addr} {u : HO} (e : Ex G G') (h : Rd G a u) : Rd G' a u := by
  rcases h with h | ⟨o, h⟩
  · exact Or.inl (e a _ h)
  · exact Or.inr ⟨o, e a _ h⟩
theorem Ex.l {K : PySem.W.Frag} {G G' : Hp} {a : Addr} {xs : List V} (e : Ex G G') (h : SqL K G a xs) : SqL K G' a xs := by
  rcases h with h | h
  · exact Or.inl (e.rd h)
  · exact Or.inr h
theorem Ex.t {K : PySem.W.Frag} {G G' : Hp} {a : Addr} {xs : List V} (e : Ex G G') (h : SqT K G a xs) : SqT K G' a xs := by
  rcases h with h | h
  · exact Or.inl (e.rd h)
  · exact Or.inr h
theorem Ex.tupd {K : PySem.W.Frag} {G G' : Hp} {a : Addr} {xs : List V} (e : Ex G G') (h : TupD K G a xs) : TupD K G' a xs := by
  rcases h with ⟨o, h, q⟩ | h
  · exact .inl ⟨o, e a _ h, q⟩
  · exact .inr h
section
variable {K : PySem.W.Frag} {S : Sts} {α α' : List Addr} {G G' : Hp}
mutual
theorem Is.mono (e : Ex G G') (p : ∀ (k : Nat) (a : Addr), α[k]? = some a → α'[k]? = some a) : ∀ {d : D} {v : V}, Is K S α G d v → Is K S α' G' d v
  | _, _, .non => .non
  | _, _, .bl b => .bl b
  | _, _, .int i => .int i
  | _, _, .str x => .str x
  | _, _, .tup h r => .tup (e.tupd h) (Iss.mono e p r)
  | _, _, .lst h r => .lst (e _ _ h) (Iss.mono e p r)
  | _, _, .scr h => .scr (e.l h)
  | _, _, .dk h l r => .dk (e _ _ h) l (Iss.mono e p r)
  | _, _, .dt h l r => .dt (e _ _ h) l (Iss.mono e p r)
  | _, _, .ty n => .ty n
  | _, _, .own a => .own a
  | _, _, .exc h => .exc (e _ _ h)
  | _, _, .mt h => .mt (p _ _ h)
  | _, _, .st h => .st h
theorem Iss.mono (e : Ex G G') (p : ∀ (k : Nat) (a : Addr), α[k]? = some a → α'[k]? = some a) : ∀ {ds : List D} {vs : List V}, Iss K S α G ds vs → Iss K S α' G' ds vs
  | _, _, .nil => .nil
  | _, _, .cons h r => .cons (Is.mono e p h) (Iss.mono e p r)
end
theorem Iss.length : ∀ {ds : List D} {vs : List V}, Iss K S α G ds vs → ds.length = vs.length
  | _, _, .nil => rfl
  | _, _, .cons _ r => by rw [List.length_cons, List.length_cons, r.length]
theorem Iss.get : ∀ {ds : List D} {vs : List V} {i : Nat} {d : D}, Iss K S α G ds vs → ds[i]? = some d → ∃ v, vs[i]? = some v ∧ Is K S α G d v
  | _, _, _, _, .nil, h => by simp at h
  | _, _, 0, _, .cons h _, e => by simp at e; subst e; exact ⟨_, rfl, h⟩
  | _, _, i + 1, d, .cons _ r, e => by
    obtain ⟨v, h1, h2⟩ := Iss.get (i := i) (d := d) r (by simpa using e)
    exact ⟨v, by simpa using h1, h2⟩
theorem Iss.get' : ∀ {ds : List D} {vs : List V} {i : Nat} {v : V}, Iss K S α G ds vs → vs[i]? = some v → ∃ d, ds[i]? = some d ∧ Is K S α G d v
  | _, _, _, _, .nil, h => by simp at h
  | _, _, 0, _, .cons h _, e => by simp at e; subst e; exact ⟨_, rfl, h⟩
  | _, _, i + 1, d, .cons _ r, e => by
    obtain ⟨v, h1, h2⟩ := Iss.get' (i := i) (v := d) r (by simpa using e)
    exact ⟨v, by simpa using h1, h2⟩
theorem Iss.append : ∀ {ds es : List D} {vs ws : List V}, Iss K S α G ds vs → Iss K S α G es ws → Iss K S α G (ds ++ es) (vs ++ ws)
  | _, _, _, _, .nil, h => h
  | _, _, _, _, .cons h r, q => .cons h (Iss.append r q)
theorem Iss.set {d : D} {v : V} (h : Is K S α G d v) : ∀ {ds : List D} {vs : List V} (i : Nat), Iss K S α G ds vs → Iss K S α G (ds.set i d) (vs.set i v)
  | _, _, _, .nil => .nil
  | _, _, 0, .cons _ r => .cons h r
  | _, _, i + 1, .cons q r => .cons q (Iss.set h i r)
theorem Iss.take : ∀ {ds : List D} {vs : List V} (n : Nat), Iss K S α G ds vs → Iss K S α G (ds.take n) (vs.take n)
  | _, _, 0, _ => by simpa using Iss.nil
  | _, _, _ + 1, .nil => .nil
  | _, _, n + 1, .cons h r => .cons h (Iss.take n r)
theorem Iss.drop : ∀ {ds : List D} {vs : List V} (n : Nat), Iss K S α G ds vs → Iss K S α G (ds.drop n) (vs.drop n)
  | _, _, 0, r => r
  | _, _, _ + 1, .nil => .nil
  | _, _, n + 1, .cons _ r => Iss.drop n r
theorem Iss.reverse : ∀ {ds : List D} {vs : List V}, Iss K S α G ds vs → Iss K S α G ds.reverse vs.reverse
  | _, _, .nil => .nil
  | _, _, .cons h r => by
    rw [List.reverse_cons, List.reverse_cons]
    exact (Iss.reverse r).append (.cons h .nil)
theorem Iss.eraseIdx : ∀ {ds : List D} {vs : List V} (n : Nat), Iss K S α G ds vs → Iss K S α G (ds.eraseIdx n) (vs.eraseIdx n)
  | _, _, _, .nil => .nil
  | _, _, 0, .cons _ r => r
  | _, _, n + 1, .cons h r => .cons h (Iss.eraseIdx n r)
theorem Iss.ints : ∀ {ns : List Int} {vs : List V}, Iss K S α G (ns.map D.int) vs → vs = ns.map V.int
  | [], _, .nil => rfl
  | n :: ns, _, .cons h r => by
    cases h
    rw [Iss.ints (ns := ns) r]
    rfl
theorem Iss.of_ints : ∀ (ns : List Int), Iss K S α G (ns.map D.int) (ns.map V.int)
  | [] => .nil
  | n :: ns => .cons (.int n) (Iss.of_ints ns)
theorem Iss.bls : ∀ {bs : List Bool} {vs : List V}, Iss K S α G (bs.map D.bl) vs → vs = bs.map V.bl
  | [], _, .nil => rfl
  | n :: ns, _, .cons h r => by
    cases h
    rw [Iss.bls (bs := ns) r]
    rfl
end

/-! ### mutable things, the frame -/
structure Cfg where
  K : PySem.W.Frag
  S : Sts
  N0 : Addr → Bool
  H0 : Hp
def inS (S : Sts) (a : Addr) : Prop := ∃ s c, S = some (s, c) ∧ (a = s ∨ a = c)
/-- hidden: the callers' mutable things, our own living ones -/
def Hid (C : Cfg) (α : List Addr) (μ : List Cell) (a : Addr) : Prop := C.N0 a = true ∨ ∃ k : Nat, α[k]? = some a ∧ μ[k]? ≠ some Cell.dead
open Classical in
noncomputable def gk (C : Cfg) (α : List Addr) (μ : List Cell) (H : Hp) : Hp := fun a => if Hid C α μ a then none else H a
theorem gk_ex {C : Cfg} {α : List Addr} {μ : List Cell} {H : Hp} : Ex (gk C α μ H) H := fun a o h => by
  unfold gk at h
  split at h
  · cases h
  · exact h
theorem gk_of {C : Cfg} {α : List Addr} {μ : List Cell} {H : Hp} {a : Addr} {o : HO} (h : H a = some o) (n : ¬ Hid C α μ a) : gk C α μ H a = some o := by
  unfold gk
  rw [if_neg n]
  exact h
theorem gk_at {C : Cfg} {α : List Addr} {μ : List Cell} {H : Hp} {a : Addr} {o : HO} (h : gk C α μ H a = some o) : H a = some o ∧ ¬ Hid C α μ a := by
  unfold gk at h
  split at h
  · cases h
  · rename_i n
    exact ⟨h, n⟩
/-- the drawing state: a list [cells, number, number], the cells -/
def StOk (S : Sts) (H : Hp) : Prop := ∀ s c, S = some (s, c) → s ≠ c ∧ ∃ (p q : Int) (ns : List Int), H s = some (.lst [.ref c, .int p, .int q]) ∧ H c = some (.lst (ns.map V.int)) ∧
  ns ≠ [] ∧ ns.length ≤ 64 ∧ (∀ n ∈ ns, 0 ≤ n) ∧ 0 ≤ p ∧ 0 ≤ q ∧ q < 2147483647
def CellOk (K : PySem.W.Frag) (S : Sts) (α : List Addr) (G H : Hp) (a : Addr) : Cell → Prop
  | .dead => True
  | .lst ds => ∃ xs, H a = some (.lst xs) ∧ Iss K S α G ds xs
  | .dk ks ds => ∃ xs, H a = some (.dK (ks.zip xs)) ∧ ks.length = xs.length ∧ Iss K S α G ds xs
  | .dt ks ds => ∃ xs, H a = some (.dT (ks.zip xs)) ∧ ks.length = xs.length ∧ Iss K S α G ds xs
abbrev Gam := List (Option D)
structure Rl (C : Cfg) (α : List Addr) (σ : L2.St) (H : Hp) (Γ : Gam) (μ : List Cell) : Prop where
  keep : ∀ a o, C.H0 a = some o → ¬ inS C.S a → H a = some o
  dom : ∀ a, C.N0 a = true → C.H0 a ≠ none
  sN : ∀ a, inS C.S a → C.N0 a = true
  new : ∀ a ∈ α, C.H0 a = none
  nd : α.Nodup
  there : ∀ a ∈ α, H a ≠ none
  len : α.length = μ.length
  cells : ∀ (k : Nat) a c, α[k]? = some a → μ[k]? = some c → CellOk C.K C.S α (gk C α μ H) H a c
  st : StOk C.S H
  slen : Γ.length = σ.length
  env : ∀ (i : Nat) d, Γ[i]? = some (some d) → ∃ v, σ[i]? = some (some v) ∧ Is C.K C.S α (gk C α μ H) d v
/-- what one may lean on later on -/
structure Mv (C : Cfg) (α : List Addr) (μ : List Cell) (H : Hp) (α' : List Addr) (μ' : List Cell) (H' : Hp) : Prop where
  pre : ∀ (k : Nat) a, α[k]? = some a → α'[k]? = some a
  ex : Ex (gk C α μ H) (gk C α' μ' H')
theorem Mv.refl {C : Cfg} {α : List Addr} {μ : List Cell} {H : Hp} : Mv C α μ H α μ H := ⟨fun _ _ h => h, Ex.refl _⟩
theorem Mv.trans {C : Cfg} {α α1 α2 : List Addr} {μ μ1 μ2 : List Cell} {H H1 H2 : Hp} (a : Mv C α μ H α1 μ1 H1) (b : Mv C α1 μ1 H1 α2 μ2 H2) : Mv C α μ H α2 μ2 H2 :=
  ⟨fun k x h => b.pre k x (a.pre k x h), a.ex.trans b.ex⟩
theorem Mv.is {C : Cfg} {α α1 : List Addr} {μ μ1 : List Cell} {H H1 : Hp} {d : D} {v : V} (a : Mv C α μ H α1 μ1 H1) (h : Is C.K C.S α (gk C α μ H) d v) : Is C.K C.S α1 (gk C α1 μ1 H1) d v := h.mono a.ex a.pre
theorem Mv.iss {C : Cfg} {α α1 : List Addr} {μ μ1 : List Cell} {H H1 : Hp} {d : List D} {v : List V} (a : Mv C α μ H α1 μ1 H1) (h : Iss C.K C.S α (gk C α μ H) d v) : Iss C.K C.S α1 (gk C α1 μ1 H1) d v := h.mono a.ex a.pre

theorem nodup_ix2 {A : Type} {l : List A} (hN : l.Nodup) {i j : Nat} {x : A} (a : l[i]? = some x) (b : l[j]? = some x) : i = j := by
  obtain ⟨h1, e1⟩ := List.getElem?_eq_some_iff.mp a
  obtain ⟨h2, e2⟩ := List.getElem?_eq_some_iff.mp b
  exact (List.getElem_inj hN).mp (e1.trans e2.symm)
section
variable {C : Cfg} {α : List Addr} {σ : L2.St} {H H' : Hp} {Γ : Gam} {μ : List Cell}
/-- all that stood stands, something may be new -/
theorem Mv.ext (e : Ex H H') : Mv C α μ H α μ H' := ⟨fun _ _ h => h, fun a o h => by
  obtain ⟨h1, h2⟩ := gk_at h
  exact gk_of (e a o h1) h2⟩
theorem CellOk.mono {K : PySem.W.Frag} {S : Sts} {α α' : List Addr} {G G' H H' : Hp} {a : Addr} {c : Cell} (e : Ex G G') (p : ∀ (k : Nat) a, α[k]? = some a → α'[k]? = some a) (h : ∀ o, H a = some o → H' a = some o) (x : CellOk K S α G H a c) : CellOk K S α' G' H' a c := by
  cases c with
  | dead => trivial
  | lst ds =>
    obtain ⟨xs, h1, h2⟩ := x
    exact ⟨xs, h _ h1, h2.mono e p⟩
  | dk ks ds =>
    obtain ⟨xs, h1, h2, h3⟩ := x
    exact ⟨xs, h _ h1, h2, h3.mono e p⟩
  | dt ks ds =>
    obtain ⟨xs, h1, h2, h3⟩ := x
    exact ⟨xs, h _ h1, h2, h3.mono e p⟩
theorem StOk.mono {S : Sts} {H H' : Hp} (e : Ex H H') (h : StOk S H) : StOk S H' := fun s c q => by
  obtain ⟨n, p, q', ns, h1, h2, r⟩ := h s c q
  exact ⟨n, p, q', ns, e _ _ h1, e _ _ h2, r⟩
theorem Rl.ext (r : Rl C α σ H Γ μ) (e : Ex H H') : Rl C α σ H' Γ μ where
  keep := fun a o h n => e a o (r.keep a o h n)
  dom := r.dom
  sN := r.sN
  new := r.new
  nd := r.nd
  there := fun a h => by
    cases q : H a with
    | none => exact absurd q (r.there a h)
    | some o =>
      rw [e a o q]
      exact fun q => nomatch q
  len := r.len
  cells := fun k a c h1 h2 => (r.cells k a c h1 h2).mono (Mv.ext e).ex (fun _ _ h => h) (fun o => e a o)
  st := r.st.mono e
  slen := r.slen
  env := fun i d h => by
    obtain ⟨v, h1, h2⟩ := r.env i d h
    exact ⟨v, h1, (Mv.ext e).is h2⟩
/-- a mutable thing of ours stands in the heap, it is known to no immutable one -/
theorem Rl.hidden (r : Rl C α σ H Γ μ) {k : Nat} {a : Addr} (h : α[k]? = some a) (hd : μ[k]? ≠ some Cell.dead) : Hid C α μ a := .inr ⟨k, h, hd⟩
theorem Rl.alive (r : Rl C α σ H Γ μ) {a : Addr} (h : Hid C α μ a) : H a ≠ none := by
  rcases h with h | ⟨k, h, hd⟩
  · by_cases hs : inS C.S a
    · obtain ⟨s, c, e, z⟩ := hs
      obtain ⟨_, p, q, ns, h1, h2, _⟩ := r.st s c e
      rcases z with z | z
      · rw [z, h1]; exact fun q => nomatch q
      · rw [z, h2]; exact fun q => nomatch q
    · cases q : C.H0 a with
      | none => exact absurd q (r.dom a h)
      | some o =>
        rw [r.keep a o q hs]
        exact fun q => nomatch q
  · have hk : k < μ.length := by
      have := (List.getElem?_eq_some_iff.mp h).1
      rw [r.len] at this
      exact this
    have e := List.getElem?_eq_getElem hk
    have x := r.cells k a _ h e
    cases q : μ[k] with
    | dead => rw [e, q] at hd; exact absurd rfl hd
    | lst ds =>
      rw [q] at x
      obtain ⟨xs, h1, _⟩ := x
      rw [h1]
      exact fun q => nomatch q
    | dk ks ds =>
      rw [q] at x
      obtain ⟨xs, h1, _⟩ := x
      rw [h1]
      exact fun q => nomatch q
    | dt ks ds =>
      rw [q] at x
      obtain ⟨xs, h1, _⟩ := x
      rw [h1]
      exact fun q => nomatch q
theorem Rl.free (r : Rl C α σ H Γ μ) {p : Addr} (h : H p = none) : ¬ Hid C α μ p := fun z => r.alive z h
theorem ex_new {p : Addr} {o : HO} (h : H p = none) : Ex H (upd H p o) := fun a u e => by
  rw [upd_ne (ne_of_none e h)]
  exact e
/-- a new immutable thing -/
theorem Rl.laid (r : Rl C α σ H Γ μ) {p : Addr} (o : HO) (h : H p = none) : gk C α μ (upd H p o) p = some o := gk_of upd_same (r.free h)
theorem Rl.setv (r : Rl C α σ H Γ μ) {i : Nat} {d : D} {v : V} (h : Is C.K C.S α (gk C α μ H) d v) : Rl C α (σ.set i (some v)) H (Γ.set i (some d)) μ where
  keep := r.keep
  dom := r.dom
  sN := r.sN
  new := r.new
  nd := r.nd
  there := r.there
  len := r.len
  cells := r.cells
  st := r.st
  slen := by rw [List.length_set, List.length_set]; exact r.slen
  env := fun j e q => by
    by_cases hj : i = j
    · subst hj
      by_cases hl : i < Γ.length
      · rw [List.getElem?_set_self hl] at q
        cases q
        exact ⟨v, by rw [List.getElem?_set_self (by rw [← r.slen]; exact hl)], h⟩
      · rw [List.getElem?_eq_none (by simpa using Nat.le_of_not_lt hl)] at q
        cases q
    · rw [List.getElem?_set_ne hj] at q ⊢
      exact r.env j e q
theorem Rl.setn (r : Rl C α σ H Γ μ) {i : Nat} : Rl C α (σ.set i none) H (Γ.set i none) μ where
  keep := r.keep
  dom := r.dom
  sN := r.sN
  new := r.new
  nd := r.nd
  there := r.there
  len := r.len
  cells := r.cells
  st := r.st
  slen := by rw [List.length_set, List.length_set]; exact r.slen
  env := fun j e q => by
    by_cases hj : i = j
    · subst hj
      by_cases hl : i < Γ.length
      · rw [List.getElem?_set_self hl] at q
        cases q
      · rw [List.getElem?_eq_none (by simpa using Nat.le_of_not_lt hl)] at q
        cases q
    · rw [List.getElem?_set_ne hj] at q ⊢
      exact r.env j e q
theorem Hid.grow {p : Addr} {c : Cell} (hl : α.length = μ.length) (nd : c ≠ .dead) {a : Addr} : Hid C (α ++ [p]) (μ ++ [c]) a ↔ (Hid C α μ a ∨ a = p) := by
  constructor
  · rintro (h | ⟨k, h, hd⟩)
    · exact .inl (.inl h)
    · by_cases hk : k < α.length
      · rw [List.getElem?_append_left hk] at h
        rw [List.getElem?_append_left (by omega)] at hd
        exact .inl (.inr ⟨k, h, hd⟩)
      · rw [List.getElem?_append_right (by omega)] at h
        have := List.mem_of_getElem? h
        exact .inr (by simpa using this)
  · rintro ((h | ⟨k, h, hd⟩) | h)
    · exact .inl h
    · have hk := (List.getElem?_eq_some_iff.mp h).1
      exact .inr ⟨k, by rw [List.getElem?_append_left hk]; exact h, by rw [List.getElem?_append_left (by omega)]; exact hd⟩
    · subst h
      refine .inr ⟨α.length, by simp, ?_⟩
      rw [hl]
      simpa using nd
/-- a new mutable thing -/
theorem Rl.grow (r : Rl C α σ H Γ μ) {p : Addr} {o : HO} {c : Cell} (h : H p = none) (hc : CellOk C.K C.S α (gk C α μ H) (upd H p o) p c) (nd : c ≠ .dead) :
    Rl C (α ++ [p]) σ (upd H p o) Γ (μ ++ [c]) ∧ Mv C α μ H (α ++ [p]) (μ ++ [c]) (upd H p o) := by
  have hp : ∀ (k : Nat) a, α[k]? = some a → (α ++ [p])[k]? = some a := fun k a q => by
    rw [List.getElem?_append_left (List.getElem?_eq_some_iff.mp q).1]
    exact q
  have np : p ∉ α := fun z => r.there p z h
  have e := ex_new (o := o) h
  have mv : Mv C α μ H (α ++ [p]) (μ ++ [c]) (upd H p o) := ⟨hp, fun a u q => by
    obtain ⟨h1, h2⟩ := gk_at q
    refine gk_of (e a u h1) fun z => ?_
    rcases (Hid.grow r.len nd).mp z with z | z
    · exact h2 z
    · rw [z, h] at h1; cases h1⟩
  refine ⟨⟨fun a u q n => e a u (r.keep a u q n), r.dom, r.sN, fun a ha => ?_, ?_, fun a ha => ?_, by simp [r.len], fun k a c' h1 h2 => ?_, r.st.mono e, r.slen, fun i d q => ?_⟩, mv⟩
  · rcases List.mem_append.mp ha with z | z
    · exact r.new a z
    · have z : a = p := by simpa using z
      subst z
      cases q : C.H0 a with
      | none => rfl
      | some u =>
        by_cases hs : inS C.S a
        · exact absurd h (r.alive (.inl (r.sN a hs)))
        · rw [r.keep a u q hs] at h; cases h
  · rw [List.nodup_append]
    refine ⟨r.nd, by simp, fun a ha b hb z => ?_⟩
    have hb : b = p := by simpa using hb
    exact np (by rw [← hb, ← z]; exact ha)
  · rcases List.mem_append.mp ha with z | z
    · cases q : H a with
      | none => exact absurd q (r.there a z)
      | some u =>
        rw [e a u q]
        exact fun q => nomatch q
    · have z : a = p := by simpa using z
      rw [z, upd_same]
      exact fun q => nomatch q
  · by_cases hk : k < α.length
    · rw [List.getElem?_append_left hk] at h1
      rw [List.getElem?_append_left (by rw [← r.len]; exact hk)] at h2
      exact (r.cells k a c' h1 h2).mono mv.ex hp (fun u => e a u)
    · rw [List.getElem?_append_right (by omega)] at h1
      rw [List.getElem?_append_right (by rw [← r.len]; omega)] at h2
      have z1 := List.mem_of_getElem? h1
      have z2 := List.mem_of_getElem? h2
      have z1 : a = p := by simpa using z1
      have z2 : c' = c := by simpa using z2
      subst z1 z2
      exact hc.mono mv.ex hp fun _ q => q
  · obtain ⟨v, h1, h2⟩ := r.env i d q
    exact ⟨v, h1, mv.is h2⟩
/-- a mutable thing is written -/
theorem Rl.write (r : Rl C α σ H Γ μ) {k : Nat} {p : Addr} {o : HO} {c : Cell} (h : α[k]? = some p) (ha : μ[k]? ≠ some Cell.dead) (hc : CellOk C.K C.S α (gk C α μ H) (upd H p o) p c) (nd : c ≠ .dead) :
    Rl C α σ (upd H p o) Γ (μ.set k c) ∧ Mv C α μ H α (μ.set k c) (upd H p o) := by
  have hk : k < α.length := (List.getElem?_eq_some_iff.mp h).1
  have hk' : k < μ.length := by rw [← r.len]; exact hk
  have hid : ∀ {a : Addr}, Hid C α (μ.set k c) a ↔ Hid C α μ a := fun {a} => by
    constructor
    · rintro (z | ⟨j, h1, h2⟩)
      · exact .inl z
      · by_cases hj : j = k
        · subst hj; exact .inr ⟨j, h1, ha⟩
        · rw [List.getElem?_set_ne (Ne.symm hj)] at h2; exact .inr ⟨j, h1, h2⟩
    · rintro (z | ⟨j, h1, h2⟩)
      · exact .inl z
      · by_cases hj : j = k
        · subst hj; exact .inr ⟨j, h1, by rw [List.getElem?_set_self hk']; simpa using nd⟩
        · exact .inr ⟨j, h1, by rw [List.getElem?_set_ne (Ne.symm hj)]; exact h2⟩
  have hp : Hid C α μ p := .inr ⟨k, h, ha⟩
  have new : C.H0 p = none := r.new p (List.mem_of_getElem? h)
  have ns : ¬ inS C.S p := fun z => r.dom p (r.sN p z) new
  have mv : Mv C α μ H α (μ.set k c) (upd H p o) := ⟨fun _ _ q => q, fun a u q => by
    obtain ⟨h1, h2⟩ := gk_at q
    refine gk_of ?_ (fun z => h2 (hid.mp z))
    rw [upd_ne (fun z => h2 (by rw [z]; exact hp))]
    exact h1⟩
  refine ⟨⟨fun a u q n => ?_, r.dom, r.sN, r.new, r.nd, fun a hm => ?_, by simp [r.len], fun j a c' h1 h2 => ?_, fun s c' e => ?_, r.slen, fun i d q => ?_⟩, mv⟩
  · rw [upd_ne (fun z => by rw [z, new] at q; cases q)]
    exact r.keep a u q n
  · by_cases z : a = p
    · rw [z, upd_same]; exact fun q => nomatch q
    · rw [upd_ne z]; exact r.there a hm
  · by_cases hj : j = k
    · subst hj
      rw [List.getElem?_set_self hk'] at h2
      cases h2
      rw [h] at h1
      cases h1
      exact hc.mono mv.ex (fun _ _ q => q) fun _ q => q
    · rw [List.getElem?_set_ne (Ne.symm hj)] at h2
      have ne : a ≠ p := fun z => by
        subst z
        exact hj (nodup_ix2 r.nd h1 h)
      exact (r.cells j a c' h1 h2).mono mv.ex (fun _ _ q => q) fun u q => by rw [upd_ne ne]; exact q
  · obtain ⟨n, p', q', ns', h1, h2, rr⟩ := r.st s c' e
    refine ⟨n, p', q', ns', ?_, ?_, rr⟩
    · rw [upd_ne (fun z => ns ⟨s, c', e, .inl z.symm⟩)]; exact h1
    · rw [upd_ne (fun z => ns ⟨s, c', e, .inr z.symm⟩)]; exact h2
  · obtain ⟨v, h1, h2⟩ := r.env i d q
    exact ⟨v, h1, mv.is h2⟩
/-- a mutable thing comes to rest -/
theorem Rl.kill (r : Rl C α σ H Γ μ) {k : Nat} : Rl C α σ H Γ (μ.set k .dead) ∧ Mv C α μ H α (μ.set k .dead) H := by
  have hid : ∀ {a : Addr}, Hid C α (μ.set k .dead) a → Hid C α μ a := fun {a} => by
    rintro (z | ⟨j, h1, h2⟩)
    · exact .inl z
    · by_cases hj : j = k
      · subst hj
        have hk' : j < μ.length := by rw [← r.len]; exact (List.getElem?_eq_some_iff.mp h1).1
        rw [List.getElem?_set_self hk'] at h2
        exact absurd rfl h2
      · rw [List.getElem?_set_ne (Ne.symm hj)] at h2; exact .inr ⟨j, h1, h2⟩
  have mv : Mv C α μ H α (μ.set k .dead) H := ⟨fun _ _ q => q, fun a u q => by
    obtain ⟨h1, h2⟩ := gk_at q
    exact gk_of h1 (fun z => h2 (hid z))⟩
  refine ⟨⟨r.keep, r.dom, r.sN, r.new, r.nd, r.there, by simp [r.len], fun j a c' h1 h2 => ?_, r.st, r.slen, fun i d q => ?_⟩, mv⟩
  · by_cases hj : j = k
    · subst hj
      have hk' : j < μ.length := by rw [← r.len]; exact (List.getElem?_eq_some_iff.mp h1).1
      rw [List.getElem?_set_self hk'] at h2
      cases h2
      trivial
    · rw [List.getElem?_set_ne (Ne.symm hj)] at h2
      exact (r.cells j a c' h1 h2).mono mv.ex (fun _ _ q => q) fun _ q => q
  · obtain ⟨v, h1, h2⟩ := r.env i d q
    exact ⟨v, h1, mv.is h2⟩
theorem Rl.dead_free (r : Rl C α σ H Γ μ) {k : Nat} {a : Addr} (h : α[k]? = some a) (hd : μ[k]? = some Cell.dead) : ¬ Hid C α μ a := by
  rintro (z | ⟨j, h1, h2⟩)
  · exact r.dom a z (r.new a (List.mem_of_getElem? h))
  · have := nodup_ix2 r.nd h h1
    subst this
    exact h2 hd
end
end TC

set_option Elab.async false
set_option linter.all false
set_option maxRecDepth 100000
set_option maxHeartbeats 2000000
/-! What is to hold at the data level, and that it carries over. -/
namespace TC
open PySem PySem.Spec PyProof.Rows L2
abbrev Mem := List Cell
abbrev RD := D → Mem → Prop
abbrev ZD := Addr → Gam → Mem → Prop
/-- an expression, a test, an argument list, at the data level -/
abbrev DX := Gam → Mem → RD → ZD → Prop
abbrev DT := Gam → Mem → (Bool → Mem → Prop) → ZD → Prop
abbrev DA := Gam → Mem → (List D → Mem → Prop) → ZD → Prop
structure Post where
  nx : Gam → Mem → Prop
  rt : RD
  bk : Gam → Mem → Prop
  ct : Gam → Mem → Prop
  rz : ZD
abbrev DS := Gam → Mem → Post → Prop

section
variable (C : Cfg) (W : WX)
def Kz (α : List Addr) (H : Hp) (μ : Mem) (Z : ZD) : Prop := ∀ cl α' Γ' μ' σ' H', Z cl Γ' μ' → Rl C α' σ' H' Γ' μ' → Mv C α μ H α' μ' H' → W (.ref cl) none σ' H'
def canE (w : DX) : TE := fun σ H Q => ∃ α Γ μ R Z, Rl C α σ H Γ μ ∧ w Γ μ R Z ∧
  (∀ d v α' μ' H', R d μ' → Rl C α' σ H' Γ μ' → Mv C α μ H α' μ' H' → Is C.K C.S α' (gk C α' μ' H') d v → Q v H') ∧ Kz C W α H μ Z
def canT (w : DT) : TT := fun σ H Q => ∃ α Γ μ R Z, Rl C α σ H Γ μ ∧ w Γ μ R Z ∧
  (∀ b α' μ' H', R b μ' → Rl C α' σ H' Γ μ' → Mv C α μ H α' μ' H' → Q b H') ∧ Kz C W α H μ Z
def canA (w : DA) : TA := fun σ H Q => ∃ α Γ μ R Z, Rl C α σ H Γ μ ∧ w Γ μ R Z ∧
  (∀ ds vs α' μ' H', R ds μ' → Rl C α' σ H' Γ μ' → Mv C α μ H α' μ' H' → Iss C.K C.S α' (gk C α' μ' H') ds vs → Q vs H') ∧ Kz C W α H μ Z
def canS (w : DS) : TS := fun D σ H => ∃ α Γ μ P, Rl C α σ H Γ μ ∧ w Γ μ P ∧
  (∀ α' Γ' μ' σ' H', P.nx Γ' μ' → Rl C α' σ' H' Γ' μ' → Mv C α μ H α' μ' H' → D.nx σ' H') ∧
  (∀ d v α' Γ' μ' σ' H', P.rt d μ' → Rl C α' σ' H' Γ' μ' → Mv C α μ H α' μ' H' → Is C.K C.S α' (gk C α' μ' H') d v → D.rt v H') ∧
  (∀ α' Γ' μ' σ' H', P.bk Γ' μ' → Rl C α' σ' H' Γ' μ' → Mv C α μ H α' μ' H' → D.bk σ' H') ∧
  (∀ α' Γ' μ' σ' H', P.ct Γ' μ' → Rl C α' σ' H' Γ' μ' → Mv C α μ H α' μ' H' → D.ct σ' H') ∧ Kz C W α H μ P.rz
end
theorem Kz.mv {C : Cfg} {W : WX} {α α1 : List Addr} {H H1 : Hp} {μ μ1 : Mem} {Z : ZD} (h : Kz C W α H μ Z) (m : Mv C α μ H α1 μ1 H1) : Kz C W α1 H1 μ1 Z :=
  fun cl α' Γ' μ' σ' H' z r q => h cl α' Γ' μ' σ' H' z r (m.trans q)

def DE (X : Cx) (C : Cfg) (W : WX) (e : Expr) (w : DX) : Prop := PE X e (canE C W w)
def DTs (X : Cx) (C : Cfg) (W : WX) (e : Expr) (w : DT) : Prop := PT X e (canT C W w)
def DAs (X : Cx) (C : Cfg) (W : WX) (es : List Expr) (w : DA) : Prop := PA X es (canA C W w)
def DSt (X : Cx) (C : Cfg) (W : WX) (s : Stmt) (w : DS) : Prop := PS X s (canS C W w)
def DSs (X : Cx) (C : Cfg) (W : WX) (ss : List Stmt) (w : DS) : Prop := PSs X ss (canS C W w)

theorem _root_.L2.PE.imp {X : Cx} {e : Expr} {t t' : TE} (h : PE X e t) (k : ∀ σ H Q, t' σ H Q → t σ H Q) : PE X e t' := ⟨fun pins s σ H Q I q => h.run pins s σ H Q I (k _ _ _ q)⟩
theorem _root_.L2.PT.imp {X : Cx} {e : Expr} {t t' : TT} (h : PT X e t) (k : ∀ σ H Q, t' σ H Q → t σ H Q) : PT X e t' := ⟨fun pins s σ H Q I q => h.run pins s σ H Q I (k _ _ _ q)⟩
theorem _root_.L2.PA.imp {X : Cx} {e : List Expr} {t t' : TA} (h : PA X e t) (k : ∀ σ H Q, t' σ H Q → t σ H Q) : PA X e t' := ⟨fun pos pins s σ H Q I q => h.run pos pins s σ H Q I (k _ _ _ q)⟩
theorem _root_.L2.PS.imp {X : Cx} {e : Stmt} {t t' : TS} (h : PS X e t) (k : ∀ D σ H, t' D σ H → t D σ H) : PS X e t' := ⟨fun pins s σ H D I q => h.run pins s σ H D I (k _ _ _ q)⟩
theorem _root_.L2.PSs.imp {X : Cx} {e : List Stmt} {t t' : TS} (h : PSs X e t) (k : ∀ D σ H, t' D σ H → t D σ H) : PSs X e t' := ⟨fun pins s σ H D I q => h.run pins s σ H D I (k _ _ _ q)⟩

section
variable {X : Cx} {C : Cfg} {W : WX} {a b c e : Expr} {es : List Expr} {wa wb wc we : DX} {pos : Pos} {α : List Addr} {σ : L2.St} {H : Hp} {Γ : Gam} {μ : Mem}
/-! ### names, constants -/
def wVar (i : Nat) : DX := fun Γ μ R _ => match Γ[i]? with
  | some (some d) => R d μ
  | _ => False
theorem de_var {x : Str} (i : Nat) (h : PE X (.Name x pos) (tVar i)) : DE X C W (.Name x pos) (wVar i) := h.imp fun σ H Q ⟨α, Γ, μ, R, Z, r, w, k, _⟩ => by
  unfold wVar at w
  split at w
  · rename_i d hd
    obtain ⟨v, h1, h2⟩ := r.env i d hd
    exact ⟨v, h1, k d v α μ H w r Mv.refl h2⟩
  · exact w.elim
def wC (d : D) : DX := fun _ μ R _ => R d μ
theorem de_c {v : V} {d : D} (h : PE X e (tC v)) (hd : ∀ α G, Is C.K C.S α G d v) : DE X C W e (wC d) := h.imp fun σ H Q ⟨α, Γ, μ, R, Z, r, w, k, _⟩ => k d v α μ H w r Mv.refl (hd _ _)
theorem de_int {i : Int} {k : Nat} : DE X C W (.Constant (.int i) k pos) (wC (.int i)) := de_c pe_int fun _ _ => .int i
theorem de_bl {b : Bool} {k : Nat} : DE X C W (.Constant (.bool b) k pos) (wC (.bl b)) := de_c pe_bl fun _ _ => .bl b
theorem de_non {k : Nat} : DE X C W (.Constant .none k pos) (wC .non) := de_c pe_non fun _ _ => .non
theorem de_str {z : Str} {k : Nat} : DE X C W (.Constant (.str z) k pos) (wC (.str z)) := de_c pe_str fun _ _ => .str z

/-! ### operators -/
/-- an operator's reading on values carries the data's -/
def SndOp (C : Cfg) (r : R2) (f : D → D → Mem → RD → Prop) : Prop := ∀ (x y : D) (v u : V) (α : List Addr) (σ : L2.St) (H : Hp) (Γ : Gam) (μ : Mem) (R : RD) (Q : VK), Rl C α σ H Γ μ →
  Is C.K C.S α (gk C α μ H) x v → Is C.K C.S α (gk C α μ H) y u → f x y μ R →
  (∀ d v' α' μ' H', R d μ' → Rl C α' σ H' Γ μ' → Mv C α μ H α' μ' H' → Is C.K C.S α' (gk C α' μ' H') d v' → Q v' H') → r v u H Q
def wBin (f : D → D → Mem → RD → Prop) (wa wb : DX) : DX := fun Γ μ R Z => wa Γ μ (fun x μ1 => wb Γ μ1 (fun y μ2 => f x y μ2 R) Z) Z
theorem two {r : R2} {f : D → D → Mem → RD → Prop} (sn : SndOp C r f) {Q : VK} (h : canE C W (wBin f wa wb) σ H Q) : tOp r (canE C W wa) (canE C W wb) σ H Q := by
  obtain ⟨α, Γ, μ, R, Z, r, w, k, z⟩ := h
  refine ⟨α, Γ, μ, _, Z, r, w, fun x v α1 μ1 H1 w1 r1 m1 i1 => ?_, z⟩
  refine ⟨α1, Γ, μ1, _, Z, r1, w1, fun y u α2 μ2 H2 w2 r2 m2 i2 => ?_, z.mv m1⟩
  exact sn x y v u α2 σ H2 Γ μ2 R Q r2 (m2.is i1) i2 w2 fun d v' α' μ' H' w3 r3 m3 i3 => k d v' α' μ' H' w3 r3 ((m1.trans m2).trans m3) i3
theorem de_op {op : Operator} {r : R2} {f : D → D → Mem → RD → Prop} (ho : OpR X (binaryOp op) r) (sn : SndOp C r f) (ha : DE X C W a wa) (hb : DE X C W b wb) : DE X C W (.BinOp a op b pos) (wBin f wa wb) :=
  (pe_op ho ha hb).imp fun σ H Q h => two sn h
theorem de_cmp {op : CmpOp} {r : R2} {f : D → D → Mem → RD → Prop} (ho : OpR X (compareOp op) r) (sn : SndOp C r f) (ha : DE X C W a wa) (hb : DE X C W b wb) (hm : behindInMarks op b = false := by rfl) : DE X C W (.Compare a [op] [b] pos) (wBin f wa wb) :=
  (pe_cmpR ho ha hb hm).imp fun σ H Q h => two sn h
theorem de_ix {r : R2} {f : D → D → Mem → RD → Prop} (ho : IxR X r) (sn : SndOp C r f) (ha : DE X C W a wa) (hb : DE X C W b wb) (hs : PlainIx b) : DE X C W (.Subscript a b pos) (wBin f wa wb) :=
  (pe_ix ho ha hb hs).imp fun σ H Q h => two sn h
theorem SndOp.or {r r' : R2} {f f' : D → D → Mem → RD → Prop} (h : SndOp C r f) (h' : SndOp C r' f') : SndOp C (fun x y H Q => r x y H Q ∨ r' x y H Q) (fun x y μ R => f x y μ R ∨ f' x y μ R) :=
  fun x y v u α σ H Γ μ R Q rl ix iy w k => by
    rcases w with w | w
    · exact .inl (h x y v u α σ H Γ μ R Q rl ix iy w k)
    · exact .inr (h' x y v u α σ H Γ μ R Q rl ix iy w k)
theorem opr_or {F : Value → Value → Sem Value} {r r' : R2} (h : OpR X F r) (h' : OpR X F r') : OpR X F (fun x y H Q => r x y H Q ∨ r' x y H Q) := by
  intro pins s σ H x y v u Q I rx ry q
  rcases q with q | q
  · exact h pins s σ H x y v u Q I rx ry q
  · exact h' pins s σ H x y v u Q I rx ry q

/-! ### tests -/
def wTest (w : DX) : DT := fun Γ μ R Z => w Γ μ (fun d μ1 => match d with
  | .bl b => R b μ1
  | _ => False) Z
theorem dt_val (h : DE X C W e we) (hp : ∀ {t : TE}, PE X e t → PT X e (tB t) := by exact fun h => pt_val h) : DTs X C W e (wTest we) := (hp h).imp fun σ H Q ⟨α, Γ, μ, R, Z, r, w, k, z⟩ => by
  refine ⟨α, Γ, μ, _, Z, r, w, fun d v α1 μ1 H1 w1 r1 m1 i1 => ?_, z⟩
  cases d <;> first | exact w1.elim | skip
  cases i1
  exact ⟨_, rfl, k _ _ _ _ w1 r1 m1⟩
end
end TC

set_option Elab.async false
set_option linter.all false
set_option maxRecDepth 100000
set_option maxHeartbeats 2000000
namespace TC
open PySem PySem.Spec PyProof.Rows L2
/-! ### reading through a mutable thing -/
def cellD (k : Nat) : Option Cell → D
  | some (.lst ds) => .lst ds
  | some (.dk ks ds) => .dk ks ds
  | some (.dt ks ds) => .dt ks ds
  | _ => .mt k
def res (d : D) (μ : Mem) : D := match d with
  | .mt k => cellD k μ[k]?
  | d => d
section
variable {X : Cx} {C : Cfg} {W : WX} {a b c e : Expr} {es : List Expr} {wa wb wc we : DX} {pos : Pos} {α : List Addr} {σ : L2.St} {H : Hp} {Γ : Gam} {μ : Mem} {d x y : D} {v u : V}
theorem Rl.res (r : Rl C α σ H Γ μ) (h : Is C.K C.S α (gk C α μ H) d v) : Is C.K C.S α H (TC.res d μ) v := by
  have m : Is C.K C.S α H d v := h.mono gk_ex fun _ _ q => q
  cases d with
  | mt k =>
    cases h with
    | mt hk =>
      show Is C.K C.S α H (cellD k μ[k]?) _
      cases q : μ[k]? with
      | none => exact m
      | some cell =>
        have x := r.cells k _ cell hk q
        cases cell with
        | dead => exact m
        | lst ds =>
          obtain ⟨xs, h1, h2⟩ := x
          exact .lst h1 (h2.mono gk_ex fun _ _ q => q)
        | dk ks ds =>
          obtain ⟨xs, h1, h2, h3⟩ := x
          exact .dk h1 h2 (h3.mono gk_ex fun _ _ q => q)
        | dt ks ds =>
          obtain ⟨xs, h1, h2, h3⟩ := x
          exact .dt h1 h2 (h3.mono gk_ex fun _ _ q => q)
  | _ => exact m
/-- the items of a list or tuple -/
def items (d : D) (μ : Mem) : Option (List D) := match d with
  | .tup ds => some ds
  | .lst ds => some ds
  | .scr ns => some (ns.map .int)
  | .mt k => match μ[k]? with
    | some (.lst ds) => some ds
    | _ => none
  | _ => none
theorem Rl.items (r : Rl C α σ H Γ μ) (h : Is C.K C.S α (gk C α μ H) d v) {ds : List D} (hi : TC.items d μ = some ds) :
    ∃ p xs, v = .ref p ∧ (SqL C.K H p xs ∨ SqT C.K H p xs) ∧ Iss C.K C.S α (gk C α μ H) ds xs := by
  unfold TC.items at hi
  cases h with
  | tup h q => cases hi; exact ⟨_, _, rfl, .inr (gk_ex.t h.sq), q⟩
  | lst h q => cases hi; exact ⟨_, _, rfl, .inl (SqL.of (gk_ex _ _ h)), q⟩
  | scr h => cases hi; exact ⟨_, _, rfl, .inl (gk_ex.l h), Iss.of_ints _⟩
  | mt hk =>
    rename_i k
    have hi : (match μ[k]? with | some (.lst ds) => some ds | _ => none) = some ds := hi
    split at hi
    · rename_i ds' q
      cases hi
      obtain ⟨xs, h1, h2⟩ := r.cells k _ _ hk q
      exact ⟨_, _, rfl, .inl (SqL.of h1), h2⟩
    · cases hi
  | _ => cases hi
/-! ### new things -/
def big : Nat := 1000000
theorem big_ok {n : Nat} (h : n ≤ big) : n ≤ sizeLine := Nat.le_trans h (by decide)
theorem big_lt {n : Nat} (h : n < big) : n < sizeLine := Nat.lt_of_lt_of_le h (by decide)
theorem Rl.tup (r : Rl C α σ H Γ μ) {p : Addr} {o : Obj} (hp : H p = none) (ho : o.dict = none) {ds : List D} {xs : List V} (h : Iss C.K C.S α (gk C α μ H) ds xs) :
    Rl C α σ (upd H p (.frz o (.tup xs))) Γ μ ∧ Mv C α μ H α μ (upd H p (.frz o (.tup xs))) ∧ Is C.K C.S α (gk C α μ (upd H p (.frz o (.tup xs)))) (.tup ds) (.ref p) :=
  ⟨r.ext (ex_new hp), Mv.ext (ex_new hp), .tup (.inl ⟨o, r.laid _ hp, ho⟩) ((Mv.ext (ex_new hp)).iss h)⟩
theorem Rl.lst (r : Rl C α σ H Γ μ) {p : Addr} (hp : H p = none) {ds : List D} {xs : List V} (h : Iss C.K C.S α (gk C α μ H) ds xs) :
    Rl C α σ (upd H p (.lst xs)) Γ μ ∧ Mv C α μ H α μ (upd H p (.lst xs)) ∧ Is C.K C.S α (gk C α μ (upd H p (.lst xs))) (.lst ds) (.ref p) :=
  ⟨r.ext (ex_new hp), Mv.ext (ex_new hp), .lst (r.laid _ hp) ((Mv.ext (ex_new hp)).iss h)⟩

/-! ### the operators -/
def fI (g : Int → Int → D) (P : Int → Int → Prop) : D → D → Mem → RD → Prop := fun x y μ R => match x, y with
  | .int i, .int j => P i j ∧ R (g i j) μ
  | _, _ => False
theorem sn_I {C : Cfg} {P : Int → Int → Prop} {g : Int → Int → V} {g' : Int → Int → D} (hg : ∀ i j α G, Is C.K C.S α G (g' i j) (g i j)) : SndOp C (rI P g) (fI g' P) := by
  intro x y v u α σ H Γ μ R Q r ix iy w k
  unfold fI at w
  split at w
  · cases ix
    cases iy
    exact ⟨_, _, rfl, rfl, w.1, k _ _ _ _ _ w.2 r Mv.refl (hg _ _ _ _)⟩
  · exact w.elim
theorem opr_I0 {F : Value → Value → Sem Value} {g : Int → Int → V} (h : OpR X F (rI0 g)) : OpR X F (rI (fun _ _ => True) g) := fun pins s σ H x y v u Q I rx ry q => by
  obtain ⟨i, j, e1, e2, _, q⟩ := q
  exact h pins s σ H x y v u Q I rx ry ⟨i, j, e1, e2, q⟩
abbrev fT : Int → Int → Prop := fun _ _ => True
def dSub := fI (fun i j => .int (i - j)) fT
def dMulI := fI (fun i j => .int (i * j)) fun i j => (-(2 ^ 64) < i ∧ i < 2 ^ 64) ∨ (-(2 ^ 64) < j ∧ j < 2 ^ 64)
def dMod := fI (fun i j => .int (i.fmod j)) fun _ j => j ≠ 0
def dFdiv := fI (fun i j => .int (i.fdiv j)) fun _ j => j ≠ 0 ∧ j.natAbs < 1073741824
def dLt := fI (fun i j => .bl (decide (i < j))) fT
def dLe := fI (fun i j => .bl (decide (i ≤ j))) fT
def dGt := fI (fun i j => .bl (decide (j < i))) fT
def dGe := fI (fun i j => .bl (decide (j ≤ i))) fT
theorem de_sub (ha : DE X C W a wa) (hb : DE X C W b wb) : DE X C W (.BinOp a .Sub b pos) (wBin dSub wa wb) := de_op (opr_I0 op_sub) (sn_I fun _ _ _ _ => .int _) ha hb
theorem de_mod (ha : DE X C W a wa) (hb : DE X C W b wb) : DE X C W (.BinOp a .Mod b pos) (wBin dMod wa wb) := de_op op_modN (sn_I fun _ _ _ _ => .int _) ha hb
theorem de_fdiv (ha : DE X C W a wa) (hb : DE X C W b wb) : DE X C W (.BinOp a .FloorDiv b pos) (wBin dFdiv wa wb) := de_op op_fdivN (sn_I fun _ _ _ _ => .int _) ha hb
theorem de_mulI (ha : DE X C W a wa) (hb : DE X C W b wb) : DE X C W (.BinOp a .Mult b pos) (wBin dMulI wa wb) := de_op op_mul (sn_I fun _ _ _ _ => .int _) ha hb
theorem de_lt (ha : DE X C W a wa) (hb : DE X C W b wb) : DE X C W (.Compare a [.Lt] [b] pos) (wBin dLt wa wb) := de_cmp (opr_I0 op_lt) (sn_I fun _ _ _ _ => .bl _) ha hb (nomark _)
theorem de_le (ha : DE X C W a wa) (hb : DE X C W b wb) : DE X C W (.Compare a [.LtE] [b] pos) (wBin dLe wa wb) := de_cmp (opr_I0 op_le) (sn_I fun _ _ _ _ => .bl _) ha hb (nomark _)
theorem de_gt (ha : DE X C W a wa) (hb : DE X C W b wb) : DE X C W (.Compare a [.Gt] [b] pos) (wBin dGt wa wb) := de_cmp (opr_I0 op_gt) (sn_I fun _ _ _ _ => .bl _) ha hb (nomark _)
theorem de_ge (ha : DE X C W a wa) (hb : DE X C W b wb) : DE X C W (.Compare a [.GtE] [b] pos) (wBin dGe wa wb) := de_cmp (opr_I0 op_ge) (sn_I fun _ _ _ _ => .bl _) ha hb (nomark _)
/-- + of numbers, tuples, lists -/
def dAdd : D → D → Mem → RD → Prop := fun x y μ R => match x, y with
  | .int i, .int j => R (.int (i + j)) μ
  | .tup a, .tup b => a.length + b.length ≤ big ∧ R (.tup (a ++ b)) μ
  | .lst a, .lst b => a.length + b.length ≤ big ∧ R (.lst (a ++ b)) μ
  | _, _ => False
theorem sn_add : SndOp C (fun x y H Q => rI0 (fun i j => .int (i + j)) x y H Q ∨ rCatF C.K x y H Q ∨ rCat x y H Q) dAdd := by
  intro x y v u α σ H Γ μ R Q r ix iy w k
  unfold dAdd at w
  split at w
  · cases ix
    cases iy
    exact .inl ⟨_, _, rfl, rfl, k _ _ _ _ _ w r Mv.refl (.int _)⟩
  · rename_i a b
    cases ix with
    | tup h1 q1 =>
      cases iy with
      | tup h2 q2 =>
        have l1 := q1.length
        have l2 := q2.length
        refine .inr (.inl ⟨_, _, _, _, rfl, rfl, gk_ex.t h1.sq, gk_ex.t h2.sq, big_ok (by omega), fun e => ?_, fun _ e => ?_, fun _ _ p ob hp ho => ?_⟩)
        · subst e
          cases q1
          exact k _ _ _ _ _ w.2 r Mv.refl (.tup h2 q2)
        · subst e
          cases q2
          refine k _ _ _ _ _ w.2 r Mv.refl ?_
          rw [List.append_nil]
          exact .tup h1 q1
        · obtain ⟨r2, m2, i2⟩ := r.tup hp ho (q1.append q2)
          exact k _ _ _ _ _ w.2 r2 m2 i2
  · rename_i a b
    cases ix with
    | lst h1 q1 =>
      cases iy with
      | lst h2 q2 =>
        have l1 := q1.length
        have l2 := q2.length
        refine .inr (.inr ⟨_, _, _, _, rfl, rfl, gk_ex _ _ h1, gk_ex _ _ h2, big_ok (by omega), fun p hp => ?_⟩)
        obtain ⟨r2, m2, i2⟩ := r.lst hp (q1.append q2)
        exact k _ _ _ _ _ w.2 r2 m2 i2
  · exact w.elim
theorem de_add (hK : X.K = C.K) (ha : DE X C W a wa) (hb : DE X C W b wb) : DE X C W (.BinOp a .Add b pos) (wBin dAdd wa wb) :=
  de_op (opr_or op_add (opr_or (by have h := op_catF (X := X); rw [hK] at h; exact h) op_cat)) sn_add ha hb

/-! ### == of data -/
mutual
def D.py : D → PyData
  | .non => .none
  | .bl b => .bool b
  | .int i => .int i
  | .str x => .str x
  | .tup ds => .tuple (pys ds)
  | .lst ds => .list (pys ds)
  | _ => .none
def pys : List D → List PyData
  | [] => []
  | d :: ds => d.py :: pys ds
end
mutual
def D.isPy : D → Bool
  | .non => true
  | .bl _ => true
  | .int _ => true
  | .str _ => true
  | .tup ds => isPys ds
  | .lst ds => isPys ds
  | _ => false
def isPys : List D → Bool
  | [] => true
  | d :: ds => d.isPy && isPys ds
end
mutual
theorem Is.dp {K : PySem.W.Frag} {S : Sts} {α : List Addr} {H : Hp} : ∀ (d : D) (v : V), Is K S α H d v → d.isPy = true → Dp K H v d.py
  | .non, v, h, q => by cases h; exact .non
  | .bl b, v, h, q => by cases h; exact .bl b
  | .int i, v, h, q => by cases h; exact .int i
  | .str x, v, h, q => by cases h; exact .str x
  | .tup ds, v, h, q => by
    cases h with
    | tup h r => exact .tup h.sq (Iss.dp ds _ r q)
  | .lst ds, v, h, q => by
    cases h with
    | lst h r => exact .lst (SqL.of h) (Iss.dp ds _ r q)
  | .dk _ _, v, h, q => by cases q
  | .dt _ _, v, h, q => by cases q
  | .scr _, v, h, q => by cases q
  | .ty _, v, h, q => by cases q
  | .own _, v, h, q => by cases q
  | .exc _, v, h, q => by cases q
  | .mt _, v, h, q => by cases q
  | .st, v, h, q => by cases q
theorem Iss.dp {K : PySem.W.Frag} {S : Sts} {α : List Addr} {H : Hp} : ∀ (ds : List D) (vs : List V), Iss K S α H ds vs → isPys ds = true → DpAll K H vs (pys ds)
  | [], vs, h, q => by cases h; exact .nil
  | d :: ds, vs, h, q => by
    cases h with
    | cons h r =>
      have q : (d.isPy && isPys ds) = true := q
      rw [Bool.and_eq_true] at q
      exact .cons (Is.dp d _ h q.1) (Iss.dp ds _ r q.2)
end
def eqOk (d : D) : Bool := d.isPy && SeqAt.shaped d.py
def deq (x y : D) : Bool := PyData.eqv x.py y.py
def dEq : D → D → Mem → RD → Prop := fun x y μ R => (eqOk (res x μ) = true ∧ eqOk (res y μ) = true) ∧ R (.bl (deq (res x μ) (res y μ))) μ
def dNe : D → D → Mem → RD → Prop := fun x y μ R => (eqOk (res x μ) = true ∧ eqOk (res y μ) = true) ∧ R (.bl (!deq (res x μ) (res y μ))) μ
theorem eqOk_and {d : D} (h : eqOk d = true) : d.isPy = true ∧ SeqAt.shaped d.py = true := by
  unfold eqOk at h
  rw [Bool.and_eq_true] at h
  exact h
theorem sn_eq : SndOp C (rEqD C.K) dEq := by
  intro x y v u α σ H Γ μ R Q r ix iy ⟨⟨o1, o2⟩, w⟩ k
  obtain ⟨p1, s1⟩ := eqOk_and o1
  obtain ⟨p2, s2⟩ := eqOk_and o2
  exact ⟨_, _, Is.dp _ _ (r.res ix) p1, Is.dp _ _ (r.res iy) p2, s1, s2, k _ _ _ _ _ w r Mv.refl (.bl _)⟩
theorem sn_ne : SndOp C (rNeD C.K) dNe := by
  intro x y v u α σ H Γ μ R Q r ix iy ⟨⟨o1, o2⟩, w⟩ k
  obtain ⟨p1, s1⟩ := eqOk_and o1
  obtain ⟨p2, s2⟩ := eqOk_and o2
  exact ⟨_, _, Is.dp _ _ (r.res ix) p1, Is.dp _ _ (r.res iy) p2, s1, s2, k _ _ _ _ _ w r Mv.refl (.bl _)⟩
theorem de_eq (hK : X.K = C.K) (hu : X.A.units + 64 < cLine) (ha : DE X C W a wa) (hb : DE X C W b wb) : DE X C W (.Compare a [.Eq] [b] pos) (wBin dEq wa wb) :=
  de_cmp (by have h := op_eqD (X := X) hu; rw [hK] at h; exact h) sn_eq ha hb (nomark _)
theorem de_ne (hK : X.K = C.K) (hu : X.A.units + 64 < cLine) (ha : DE X C W a wa) (hb : DE X C W b wb) : DE X C W (.Compare a [.NotEq] [b] pos) (wBin dNe wa wb) :=
  de_cmp (by have h := op_neD (X := X) hu; rw [hK] at h; exact h) sn_ne ha hb (nomark _)

/-! ### in, of flat things -/
def flatD : D → Bool
  | .non => true
  | .bl _ => true
  | .int _ => true
  | .str _ => true
  | _ => false
theorem Is.flat {K : PySem.W.Frag} {S : Sts} {G : Hp} (h : Is K S α G d v) (f : flatD d = true) : flatV v = true := by
  cases h <;> first | rfl | cases f
theorem Iss.flat {K : PySem.W.Frag} {S : Sts} {G : Hp} : ∀ {ds : List D} {vs : List V}, Iss K S α G ds vs → ds.all flatD = true → vs.all flatV = true
  | _, _, .nil, _ => rfl
  | _, _, .cons h r, q => by
    rw [List.all_cons, Bool.and_eq_true] at q
    rw [List.all_cons, Is.flat h q.1, Iss.flat r q.2]
    rfl
theorem deq_flat {K : PySem.W.Frag} {S : Sts} {G : Hp} (h1 : Is K S α G x v) (h2 : Is K S α G y u) (f1 : flatD x = true) (f2 : flatD y = true) : eqV v u = deq x y := by
  cases h1 <;> first | (cases f1; done) | skip
  all_goals (cases h2 <;> first | (cases f2; done) | skip)
  all_goals first | rfl | (unfold deq; rfl)
theorem inV_of {K : PySem.W.Frag} {S : Sts} {G : Hp} (h1 : Is K S α G x v) (f1 : flatD x = true) : ∀ {ds : List D} {vs : List V}, Iss K S α G ds vs → ds.all flatD = true → inV v vs = ds.any fun z => deq z x
  | _, _, .nil, _ => rfl
  | d :: ds, w :: ws, .cons h r, q => by
    rw [List.all_cons, Bool.and_eq_true] at q
    show (eqV w v || inV v ws) = _
    rw [List.any_cons, deq_flat h h1 q.1 f1, inV_of h1 f1 r q.2]
def dIn (neg : Bool) : D → D → Mem → RD → Prop := fun x y μ R => match items y μ with
  | some ds => (flatD x = true ∧ ds.all flatD = true) ∧ R (.bl (if neg then !(ds.any fun z => deq z x) else ds.any fun z => deq z x)) μ
  | _ => False
theorem sn_in {neg : Bool} : SndOp C (rIn C.K neg) (dIn neg) := by
  intro x y v u α σ H Γ μ R Q r ix iy w k
  unfold dIn at w
  split at w
  · rename_i ds hi
    obtain ⟨⟨f1, f2⟩, w⟩ := w
    obtain ⟨p, xs, rfl, hs, q⟩ := r.items iy hi
    refine ⟨p, xs, rfl, hs, ix.flat f1, q.flat f2, ?_⟩
    rw [inV_of ix f1 q f2]
    exact k _ _ _ _ _ w r Mv.refl (.bl _)
  · exact w.elim
theorem de_in (hK : X.K = C.K) (ha : DE X C W a wa) (hb : DE X C W b wb) (hm : behindInMarks .In b = false) : DE X C W (.Compare a [.In] [b] pos) (wBin (dIn false) wa wb) :=
  de_cmp (by have h := op_in_seq (X := X); rw [hK] at h; exact h) sn_in ha hb hm
theorem de_notin (hK : X.K = C.K) (ha : DE X C W a wa) (hb : DE X C W b wb) (hm : behindInMarks .NotIn b = false) : DE X C W (.Compare a [.NotIn] [b] pos) (wBin (dIn true) wa wb) :=
  de_cmp (by have h := op_notIn_seq (X := X); rw [hK] at h; exact h) sn_in ha hb hm

/-! ### is None -/
def dIsN : D → D → Mem → RD → Prop := fun x y μ R => match y with
  | .non => R (.bl (match x with | .non => true | _ => false)) μ
  | _ => False
def dNotN : D → D → Mem → RD → Prop := fun x y μ R => match y with
  | .non => R (.bl (match x with | .non => false | _ => true)) μ
  | _ => False
theorem is_non {K : PySem.W.Frag} {S : Sts} {G : Hp} (h : Is K S α G x v) : decide (v = V.non) = (match x with | .non => true | _ => false) := by
  cases h <;> rfl
theorem not_non {K : PySem.W.Frag} {S : Sts} {G : Hp} (h : Is K S α G x v) : (!decide (v = V.non)) = (match x with | .non => false | _ => true) := by
  cases h <;> rfl

/-! ### subscripts -/
theorem atI_get {ds : List D} {vs : List V} {i : Int} {d : D} {K : PySem.W.Frag} {S : Sts} {G : Hp} (h : Iss K S α G ds vs) (e : atI ds i = some d) : ∃ v, atI vs i = some v ∧ Is K S α G d v := by
  unfold atI at e ⊢
  rw [← h.length]
  cases q : ixN ds.length i with
  | none => rw [q] at e; cases e
  | some j =>
    rw [q] at e
    exact h.get e
def dIx : D → D → Mem → RD → Prop := fun x y μ R => match items x μ, y with
  | some ds, .int i => match atI ds i with
    | some d => R d μ
    | none => False
  | _, _ => False
theorem sn_ix : SndOp C (rIx C.K) dIx := by
  intro x y v u α σ H Γ μ R Q r ix iy w k
  unfold dIx at w
  split at w
  · rename_i ds i hi
    split at w
    · rename_i d hd
      obtain ⟨p, xs, rfl, hs, q⟩ := r.items ix hi
      obtain ⟨z, h1, h2⟩ := atI_get q hd
      cases iy
      rcases hs with hs | hs
      · exact .inl ⟨p, xs, _, z, rfl, rfl, hs, h1, k _ _ _ _ _ w r Mv.refl h2⟩
      · exact .inr (.inl ⟨p, xs, _, z, rfl, rfl, hs, h1, k _ _ _ _ _ w r Mv.refl h2⟩)
    · exact w.elim
  · exact w.elim
theorem de_item (hK : X.K = C.K) (ha : DE X C W a wa) (hb : DE X C W b wb) (hs : PlainIx b := by exact fun _ _ => rfl) : DE X C W (.Subscript a b pos) (wBin dIx wa wb) :=
  de_ix (by have h := ix_seq (X := X); rw [hK] at h; exact h) sn_ix ha hb hs
end
end TC

set_option Elab.async false
set_option linter.all false
set_option maxRecDepth 100000
set_option maxHeartbeats 2000000
namespace TC
open PySem PySem.Spec PyProof.Rows L2
/-- what an iterator gives, while G stands -/
structure Wk (J : It) (xs : List V) (G : Hp → Prop) : Prop where
  go : ∀ i H, G H → i < xs.length → J.go i H
  yl : ∀ i H x H', G H → i < xs.length → J.yld i H x H' → H' = H ∧ xs[i]? = some x
  stop : ∀ i H, G H → i = xs.length → J.stop i H
theorem wk_list {K : PySem.W.Frag} {a : Addr} {xs : List V} : Wk (Itl K a) xs (fun H => SqL K H a xs) where
  go := fun i H h l => ⟨xs, xs[i], h, by simp [l]⟩
  yl := fun i H x H' h _ y => ⟨y.1, y.2 xs h⟩
  stop := fun i H h e => ⟨xs, h, by omega⟩
theorem wk_tup {K : PySem.W.Frag} {a : Addr} {xs : List V} : Wk (Itt K a) xs (fun H => SqT K H a xs) where
  go := fun i H h l => ⟨xs, xs[i], h, by simp [l]⟩
  yl := fun i H x H' h _ y => ⟨y.1, y.2 xs h⟩
  stop := fun i H h e => ⟨xs, h, by omega⟩
theorem rgV_get {lo hi : Int} {i : Nat} (h : i < (hi - lo).toNat) : (rgV lo hi)[i]? = some (.int (lo + (i : Int))) := by
  unfold rgV
  rw [List.getElem?_map, List.getElem?_range h]
  rfl
theorem wk_rng {lo hi : Int} : Wk (Itr lo (hi - lo).toNat) (rgV lo hi) (fun _ => True) where
  go := fun i H _ l => by rw [rgV_length] at l; exact l
  yl := fun i H x H' _ l y => by
    obtain ⟨e, y⟩ := y
    subst y
    rw [rgV_length] at l
    exact ⟨e, rgV_get l⟩
  stop := fun i H _ e => by rw [rgV_length] at e; exact Nat.le_of_eq e.symm
section
variable {J : It} {xs : List V} {G : Hp → Prop}
theorem for_wk (k : Wk J xs G) {g : TG} {tb : TS} {D : Ends} {σ : L2.St} {H : Hp} (Pv : Nat → L2.St → Hp → Prop) (h0 : Pv 0 σ H) (hl : ∀ i σ H, Pv i σ H → G H)
    (hs : ∀ i x σ H, xs[i]? = some x → Pv i σ H → g x σ H fun σ2 H2 => tb { D with nx := Pv (i + 1), ct := Pv (i + 1), bk := D.nx } σ2 H2) (hd : ∀ σ H, Pv xs.length σ H → D.nx σ H) :
    ∃ W : Nat → Nat → L2.St → Hp → Prop, (∃ m, W 0 m σ H) ∧ ∀ i m σ H, W i m σ H →
      (J.stop i H ∧ D.nx σ H) ∨ (J.go i H ∧ ∃ N : L2.St → Hp → Prop, (∀ σ' H', N σ' H' → ∃ m', m' < m ∧ W (i + 1) m' σ' H') ∧ ∀ x H', J.yld i H x H' → g x σ H' fun σ2 H2 => tb { D with nx := N, ct := N, bk := D.nx } σ2 H2) := by
  refine ⟨fun i m σ H => m = xs.length - i ∧ i ≤ xs.length ∧ Pv i σ H, ⟨xs.length, by simp, Nat.zero_le _, h0⟩, ?_⟩
  rintro i m σ H ⟨rfl, hi, p⟩
  have q := hl i σ H p
  by_cases hlt : i < xs.length
  · refine .inr ⟨k.go i H q hlt, Pv (i + 1), fun σ' H' p' => ⟨xs.length - (i + 1), by omega, rfl, hlt, p'⟩, fun x H' y => ?_⟩
    obtain ⟨e, y2⟩ := k.yl i H x H' q hlt y
    subst e
    exact hs i x σ _ y2 p
  · have e : i = xs.length := by omega
    subst e
    exact .inl ⟨k.stop _ H q rfl, hd σ H p⟩
theorem lc_wk (k : Wk J xs G) {g : TG} {tt : TT} {te : TE} {vs : List Nat} {σ : L2.St} {H1 : Hp} {D : Addr} {Qd : Hp → Prop} (Pv : Nat → Hp → Prop) (h0 : Pv 0 (upd H1 D (.lst []))) (hl : ∀ i H, Pv i H → G H)
    (hs : ∀ i x H, xs[i]? = some x → Pv i H → g x (wipe σ vs) H fun σ2 H2 => wipe σ2 vs = wipe σ vs ∧ tt σ2 H2 fun b H3 =>
      if b = true then te σ2 H3 fun y H4 => ∃ acc, H4 D = some (.lst acc) ∧ acc.length < sizeLine ∧ Pv (i + 1) (upd H4 D (.lst (acc ++ [y]))) else Pv (i + 1) H3) (hd : ∀ H, Pv xs.length H → Qd H) :
    ∃ W : Nat → Nat → Hp → Prop, (∃ m, W 0 m (upd H1 D (.lst []))) ∧ ∀ i m H, W i m H →
      (J.stop i H ∧ Qd H) ∨ (J.go i H ∧ ∃ Nx : Hp → Prop, (∀ H', Nx H' → ∃ m', m' < m ∧ W (i + 1) m' H') ∧ ∀ x H', J.yld i H x H' → g x (wipe σ vs) H' fun σ2 H2 => wipe σ2 vs = wipe σ vs ∧ tt σ2 H2 fun b H3 =>
        if b = true then te σ2 H3 fun y H4 => ∃ acc, H4 D = some (.lst acc) ∧ acc.length < sizeLine ∧ Nx (upd H4 D (.lst (acc ++ [y]))) else Nx H3) := by
  refine ⟨fun i m H => m = xs.length - i ∧ i ≤ xs.length ∧ Pv i H, ⟨xs.length, by simp, Nat.zero_le _, h0⟩, ?_⟩
  rintro i m H ⟨rfl, hi, p⟩
  have q := hl i H p
  by_cases hlt : i < xs.length
  · refine .inr ⟨k.go i H q hlt, Pv (i + 1), fun H' p' => ⟨xs.length - (i + 1), by omega, rfl, hlt, p'⟩, fun x H' y => ?_⟩
    obtain ⟨e, y2⟩ := k.yl i H x H' q hlt y
    subst e
    exact hs i x _ y2 p
  · have e : i = xs.length := by omega
    subst e
    exact .inl ⟨k.stop _ H q rfl, hd H p⟩
end
/-! ### what is walked -/
def itemsI (d : D) : Option (List D) := match d with
  | .tup ds => some ds
  | .lst ds => some ds
  | .scr ns => some (ns.map .int)
  | _ => none
def rgD (lo hi : Int) : List D := (List.range (hi - lo).toNat).map fun i => D.int (lo + (i : Nat))
theorem rgD_is {K : PySem.W.Frag} {S : Sts} {α : List Addr} {G : Hp} {lo hi : Int} : Iss K S α G (rgD lo hi) (rgV lo hi) := by
  have e1 : rgD lo hi = ((List.range (hi - lo).toNat).map fun i => (lo + (i : Nat) : Int)).map D.int := by unfold rgD; rw [List.map_map]; rfl
  have e2 : rgV lo hi = ((List.range (hi - lo).toNat).map fun i => (lo + (i : Nat) : Int)).map V.int := by unfold rgV; rw [List.map_map]; rfl
  rw [e1, e2]
  exact Iss.of_ints _
def canI (C : Cfg) (W : WX) (w : DA) : TI := fun σ H R => ∃ α Γ μ Rd Z, Rl C α σ H Γ μ ∧ w Γ μ Rd Z ∧
  (∀ ds xs J G α' μ' H', Rd ds μ' → Rl C α' σ H' Γ μ' → Mv C α μ H α' μ' H' → Iss C.K C.S α' (gk C α' μ' H') ds xs → Wk J xs G → (∀ α2 μ2 H2, Mv C α' μ' H' α2 μ2 H2 → G H2) → R J H') ∧ Kz C W α H μ Z
def DI (X : Cx) (C : Cfg) (W : WX) (tg e : Expr) (w : DA) : Prop := PI X tg e (canI C W w)
theorem _root_.L2.PI.imp {X : Cx} {tg e : Expr} {t t' : TI} (h : PI X tg e t) (k : ∀ σ H Q, t' σ H Q → t σ H Q) : PI X tg e t' := ⟨fun pins s σ H Q I q => h.run pins s σ H Q I (k _ _ _ q)⟩
section
variable {X : Cx} {C : Cfg} {W : WX} {tg a b e l : Expr} {wa wb we : DX} {pos p : Pos}
def iAny (K : PySem.W.Frag) (tl : TE) : TI := fun σ H R => tl σ H fun x H1 => ∃ a, x = .ref a ∧ (((∃ xs, SqL K H1 a xs) ∧ R (Itl K a) H1) ∨ ((∃ xs, SqT K H1 a xs) ∧ R (Itt K a) H1))
theorem pi_any {tl : TE} (hl : PE X l tl) : PI X tg l (iAny X.K tl) := by
  refine ⟨fun pins s σ H R I h => ?_⟩
  refine thn (hl.run pins s σ H _ I h) fun v s1 ⟨x, H1, I1, r1, q1⟩ => ?_
  obtain ⟨a, ea, q1⟩ := q1
  subst ea
  cases r1
  have fp : ∀ b ∈ [s1.heap.objs.size], FpOk X pins H1 b := fun b hb => by
    have e : b = s1.heap.objs.size := by simpa using hb
    subst e
    exact I1.fpOk (Nat.le_refl _) (I1.hok.fresh (Nat.le_refl _))
  rcases q1 with ⟨⟨xs, hq⟩, q⟩ | ⟨⟨xs, hq⟩, q⟩
  · obtain ⟨its, rv, p, hz⟩ := I1.list hq
    refine wpAny_pyIter_list p.isList ?_
    exact ⟨s1.heap.objs.size, [s1.heap.objs.size], _, _, H1, rfl, I1.kept (t' := s1.toks) fun b o e => Heap.get?_push_of_some _ e, turn_list a _, ⟨_, Heap.get?_push_size _ rfl, rfl, rfl⟩, fp, q⟩
  · obtain ⟨its, rv, p, hz⟩ := I1.tuple hq
    refine wpAny_pyIter_tuple (show s1.heap.IsTuple a its.toArray from p) ?_
    exact ⟨s1.heap.objs.size, [s1.heap.objs.size], _, _, H1, rfl, I1.kept (t' := s1.toks) fun b o e => Heap.get?_push_of_some _ e, turn_tuple a _, ⟨_, Heap.get?_push_size _ rfl, rfl, rfl⟩, fp, q⟩
def wIt (w : DX) : DA := fun Γ μ R Z => w Γ μ (fun d μ1 => match itemsI d with
  | some ds => R ds μ1
  | none => False) Z
theorem di_val (hK : X.K = C.K) (h : DE X C W l we) : DI X C W tg l (wIt we) := (pi_any h).imp fun σ H Q ⟨α, Γ, μ, R, Z, r, w, k, z⟩ => by
  rw [hK]
  refine ⟨α, Γ, μ, _, Z, r, w, fun d v α1 μ1 H1 w1 r1 m1 i1 => ?_, z⟩
  cases i1 with
  | tup h q => exact ⟨_, rfl, .inr ⟨⟨_, gk_ex.t h.sq⟩, k _ _ _ _ α1 μ1 H1 w1 r1 m1 q wk_tup fun α2 μ2 H2 m2 => gk_ex.t (m2.ex.t h.sq)⟩⟩
  | lst h q => exact ⟨_, rfl, .inl ⟨⟨_, SqL.of (gk_ex _ _ h)⟩, k _ _ _ _ α1 μ1 H1 w1 r1 m1 q wk_list fun α2 μ2 H2 m2 => SqL.of (gk_ex _ _ (m2.ex _ _ h))⟩⟩
  | scr h => exact ⟨_, rfl, .inl ⟨⟨_, gk_ex.l h⟩, k _ _ _ _ α1 μ1 H1 w1 r1 m1 (Iss.of_ints _) wk_list fun α2 μ2 H2 m2 => gk_ex.l (m2.ex.l h)⟩⟩
  | _ => exact w1.elim
/-! ### args -/
def wNil : DA := fun _ μ R _ => R [] μ
def wCons (wa : DX) (wr : DA) : DA := fun Γ μ R Z => wa Γ μ (fun d μ1 => wr Γ μ1 (fun ds μ2 => R (d :: ds) μ2) Z) Z
theorem da_nil : DAs X C W [] wNil := pa_nil.imp fun σ H Q ⟨α, Γ, μ, R, Z, r, w, k, z⟩ => k [] [] α μ H w r Mv.refl .nil
theorem da_cons {es : List Expr} {wr : DA} (ha : DE X C W e wa) (hr : DAs X C W es wr) (hs : starEach (e :: es) X.env = (false, eval e X.env) :: starEach es X.env := by rfl) : DAs X C W (e :: es) (wCons wa wr) :=
  (pa_cons ha hr hs).imp fun σ H Q ⟨α, Γ, μ, R, Z, r, w, k, z⟩ => by
    refine ⟨α, Γ, μ, _, Z, r, w, fun d v α1 μ1 H1 w1 r1 m1 i1 => ?_, z⟩
    refine ⟨α1, Γ, μ1, _, Z, r1, w1, fun ds vs α2 μ2 H2 w2 r2 m2 i2 => ?_, z.mv m1⟩
    exact k (d :: ds) (v :: vs) α2 μ2 H2 w2 r2 (m1.trans m2) (.cons (m2.is i1) i2)
theorem one_int {α : List Addr} {K : PySem.W.Frag} {S : Sts} {G : Hp} {d : List D} {vs : List V} (h : Iss K S α G d vs) {n : Int} (e : d = [.int n]) : vs = [.int n] := by
  subst e
  cases h with
  | cons h r => cases r; cases h; rfl
def rgOk (n : Int) : Prop := -1000000 ≤ n ∧ n ≤ 1000000
def wRng1 (wa : DA) : DA := fun Γ μ R Z => wa Γ μ (fun ds μ1 => match ds with
  | [.int n] => rgOk n ∧ R (rgD 0 n) μ1
  | _ => False) Z
theorem di_rng1 {a : Expr} {wa : DA} (hg : Gl X "range") (hm : X.mg "range" = none) (ha : DAs X C W [a] wa) (hs : starEach [a] X.env = [(false, eval a X.env)] := by rfl) : DI X C W tg (.Call (.Name "range" p) [a] [] pos) (wRng1 wa) :=
  (pi_range1 hg hm ha hs).imp fun σ H Q ⟨α, Γ, μ, R, Z, r, w, k, z⟩ => by
    refine ⟨α, Γ, μ, _, Z, r, w, fun ds vs α1 μ1 H1 w1 r1 m1 i1 => ?_, z⟩
    split at w1
    · rename_i n
      obtain ⟨⟨b1, b2⟩, w1⟩ := w1
      have e := one_int i1 rfl
      subst e
      refine ⟨n, rfl, by omega, by omega, ?_⟩
      have q := k (rgD 0 n) (rgV 0 n) (Itr 0 (n - 0).toNat) _ α1 μ1 H1 w1 r1 m1 rgD_is wk_rng fun _ _ _ _ => trivial
      rw [Int.sub_zero] at q
      exact q
    · exact w1.elim
def wRng2 (wa : DA) : DA := fun Γ μ R Z => wa Γ μ (fun ds μ1 => match ds with
  | [.int m, .int n] => (rgOk m ∧ rgOk n) ∧ R (rgD m n) μ1
  | _ => False) Z
theorem di_rng2 {a b : Expr} {wa : DA} (hg : Gl X "range") (hm : X.mg "range" = none) (ha : DAs X C W [a, b] wa) (hs : starEach [a, b] X.env = [(false, eval a X.env), (false, eval b X.env)] := by rfl) (hs2 : starEach [b] X.env = [(false, eval b X.env)] := by rfl) :
    DI X C W tg (.Call (.Name "range" p) [a, b] [] pos) (wRng2 wa) :=
  (pi_range2 hg hm ha hs hs2).imp fun σ H Q ⟨α, Γ, μ, R, Z, r, w, k, z⟩ => by
    refine ⟨α, Γ, μ, _, Z, r, w, fun ds vs α1 μ1 H1 w1 r1 m1 i1 => ?_, z⟩
    split at w1
    · rename_i m n
      obtain ⟨⟨⟨b1, b2⟩, b3, b4⟩, w1⟩ := w1
      cases i1 with
      | cons h1 t1 =>
        cases t1 with
        | cons h2 t2 =>
          cases t2
          cases h1
          cases h2
          exact ⟨m, n, rfl, ⟨by omega, by omega, by omega, by omega⟩, k (rgD m n) (rgV m n) (Itr m (n - m).toNat) _ α1 μ1 H1 w1 r1 m1 rgD_is wk_rng fun _ _ _ _ => trivial⟩
    · exact w1.elim
end
end TC

set_option Elab.async false
set_option linter.all false
set_option maxRecDepth 100000
set_option maxHeartbeats 2000000
namespace TC
open PySem PySem.Spec PyProof.Rows L2
section
variable {X : Cx} {C : Cfg} {W : WX} {a b c e : Expr} {es : List Expr} {st : Stmt} {ss s1 s2 : List Stmt} {wa wb wc we : DX} {wt : DT} {ws wr w1 w2 : DS} {pos : Pos}
def wNext : DS := fun Γ μ P => P.nx Γ μ
def wSeq (ws wr : DS) : DS := fun Γ μ P => ws Γ μ ⟨fun Γ' μ' => wr Γ' μ' P, P.rt, P.bk, P.ct, P.rz⟩
theorem dss_nil : DSs X C W [] wNext := pss_nil.imp fun D σ H ⟨α, Γ, μ, P, r, w, n, _⟩ => n α Γ μ σ H w r Mv.refl
theorem dss_cons (hs : DSt X C W st ws) (hr : DSs X C W ss wr) : DSs X C W (st :: ss) (wSeq ws wr) := (pss_cons hs hr).imp fun D σ H ⟨α, Γ, μ, P, r, w, n, t, b, c, z⟩ =>
  ⟨α, Γ, μ, _, r, w, fun α' Γ' μ' σ' H' w' r' m' => ⟨α', Γ', μ', P, r', w', fun α2 Γ2 μ2 σ2 H2 w2 r2 m2 => n α2 Γ2 μ2 σ2 H2 w2 r2 (m'.trans m2), fun d v α2 Γ2 μ2 σ2 H2 w2 r2 m2 i2 => t d v α2 Γ2 μ2 σ2 H2 w2 r2 (m'.trans m2) i2,
    fun α2 Γ2 μ2 σ2 H2 w2 r2 m2 => b α2 Γ2 μ2 σ2 H2 w2 r2 (m'.trans m2), fun α2 Γ2 μ2 σ2 H2 w2 r2 m2 => c α2 Γ2 μ2 σ2 H2 w2 r2 (m'.trans m2), z.mv m'⟩, t, b, c, z⟩
theorem dss_one (hs : DSt X C W st ws) : DSs X C W [st] (wSeq ws wNext) := dss_cons hs dss_nil
def wRet (we : DX) : DS := fun Γ μ P => we Γ μ P.rt P.rz
theorem ds_ret (he : DE X C W e we) : DSt X C W (.Return (some e) pos) (wRet we) := (ps_ret he).imp fun D σ H ⟨α, Γ, μ, P, r, w, n, t, b, c, z⟩ =>
  ⟨α, Γ, μ, _, _, r, w, fun d v α' μ' H' w' r' m' i' => t d v α' Γ μ' σ H' w' r' m' i', z⟩
def wDrop (we : DX) : DS := fun Γ μ P => we Γ μ (fun _ μ' => P.nx Γ μ') P.rz
theorem ds_expr (h : PS X st (tDrop (canE C W we))) : DSt X C W st (wDrop we) := h.imp fun D σ H ⟨α, Γ, μ, P, r, w, n, t, b, c, z⟩ =>
  ⟨α, Γ, μ, _, _, r, w, fun d v α' μ' H' w' r' m' i' => n α' Γ μ' σ H' w' r' m', z⟩
def wAsg (j : Nat) (we : DX) : DS := fun Γ μ P => we Γ μ (fun d μ' => P.nx (Γ.set j (some d)) μ') P.rz
theorem ds_asg {j : Nat} (h : PS X st (tAsg (canE C W we) (gName j))) : DSt X C W st (wAsg j we) := h.imp fun D σ H ⟨α, Γ, μ, P, r, w, n, t, b, c, z⟩ =>
  ⟨α, Γ, μ, _, _, r, w, fun d v α' μ' H' w' r' m' i' => n α' _ μ' _ H' w' (r'.setv i') m', z⟩
def wPar (i j : Nat) (wa : DA) : DS := fun Γ μ P => wa Γ μ (fun ds μ' => match ds with
  | [d, e] => P.nx ((Γ.set i (some d)).set j (some e)) μ'
  | _ => False) P.rz
theorem ds_par {i j : Nat} {wa : DA} (h : PS X st (tPar i j (canA C W wa))) : DSt X C W st (wPar i j wa) := h.imp fun D σ H ⟨α, Γ, μ, P, r, w, n, t, b, c, z⟩ =>
  ⟨α, Γ, μ, _, _, r, w, fun ds vs α' μ' H' w' r' m' i' => by
    split at w'
    · cases i' with
      | cons h1 t1 =>
        cases t1 with
        | cons h2 t2 =>
          cases t2
          exact ⟨_, _, rfl, n α' _ μ' _ H' w' ((r'.setv h1).setv h2) m'⟩
    · exact w'.elim, z⟩
def wPar3 (i j l : Nat) (wa : DA) : DS := fun Γ μ P => wa Γ μ (fun ds μ' => match ds with
  | [d, e, f] => P.nx (((Γ.set i (some d)).set j (some e)).set l (some f)) μ'
  | _ => False) P.rz
theorem ds_par3 {i j l : Nat} {wa : DA} (h : PS X st (tPar3 i j l (canA C W wa))) : DSt X C W st (wPar3 i j l wa) := h.imp fun D σ H ⟨α, Γ, μ, P, r, w, n, t, b, c, z⟩ =>
  ⟨α, Γ, μ, _, _, r, w, fun ds vs α' μ' H' w' r' m' i' => by
    split at w'
    · cases i' with
      | cons h1 t1 =>
        cases t1 with
        | cons h2 t2 =>
          cases t2 with
          | cons h3 t3 =>
            cases t3
            exact ⟨_, _, _, rfl, n α' _ μ' _ H' w' (((r'.setv h1).setv h2).setv h3) m'⟩
    · exact w'.elim, z⟩
def wIf (wt : DT) (w1 w2 : DS) : DS := fun Γ μ P => wt Γ μ (fun b μ1 => if b = true then w1 Γ μ1 P else w2 Γ μ1 P) P.rz
theorem ds_if (hc : DTs X C W c wt) (h1 : DSs X C W s1 w1) (h2 : DSs X C W s2 w2) : DSt X C W (.If c s1 s2 pos) (wIf wt w1 w2) := (ps_if hc h1 h2).imp fun D σ H ⟨α, Γ, μ, P, r, w, n, t, b, c, z⟩ =>
  ⟨α, Γ, μ, _, _, r, w, fun k α' μ' H' w' r' m' => by
    have fin : ∀ {w : DS}, w Γ μ' P → canS C W w D σ H' := fun {w} w' => ⟨α', Γ, μ', P, r', w', fun α2 Γ2 μ2 σ2 H2 w2 r2 m2 => n α2 Γ2 μ2 σ2 H2 w2 r2 (m'.trans m2), fun d v α2 Γ2 μ2 σ2 H2 w2 r2 m2 i2 => t d v α2 Γ2 μ2 σ2 H2 w2 r2 (m'.trans m2) i2,
      fun α2 Γ2 μ2 σ2 H2 w2 r2 m2 => b α2 Γ2 μ2 σ2 H2 w2 r2 (m'.trans m2), fun α2 Γ2 μ2 σ2 H2 w2 r2 m2 => c α2 Γ2 μ2 σ2 H2 w2 r2 (m'.trans m2), z.mv m'⟩
    cases k with
    | true => exact fin w'
    | false => exact fin w', z⟩
def wBrk : DS := fun Γ μ P => P.bk Γ μ
def wCnt : DS := fun Γ μ P => P.ct Γ μ
theorem ds_break : DSt X C W (.Break pos) wBrk := ps_break.imp fun D σ H ⟨α, Γ, μ, P, r, w, n, t, b, c, z⟩ => b α Γ μ σ H w r Mv.refl
theorem ds_continue : DSt X C W (.Continue pos) wCnt := ps_continue.imp fun D σ H ⟨α, Γ, μ, P, r, w, n, t, b, c, z⟩ => c α Γ μ σ H w r Mv.refl
theorem ds_pass : DSt X C W (.Pass pos) wNext := ps_pass.imp fun D σ H ⟨α, Γ, μ, P, r, w, n, _⟩ => n α Γ μ σ H w r Mv.refl
/-! ### for -/
/-- a target -/
def DG (X : Cx) (tg : Expr) (g : TG) (tf : D → Gam → Option Gam) : Prop := PG X tg g ∧ ∀ (C : Cfg) α σ H Γ μ d v (Q : L2.St → Hp → Prop) Γ', Rl C α σ H Γ μ → Is C.K C.S α (gk C α μ H) d v → tf d Γ = some Γ' → (∀ σ', Rl C α σ' H Γ' μ → Q σ' H) → g v σ H Q
theorem dg_name {j : Nat} (h : PG X e (gName j)) : DG X e (gName j) (fun d Γ => some (Γ.set j (some d))) := ⟨h, fun C α σ H Γ μ d v Q Γ' r i e k => by
  cases e
  exact k _ (r.setv i)⟩
def wForL (tf : D → Gam → Option Gam) (body : DS) : List D → DS
  | [], Γ, μ, P => P.nx Γ μ
  | x :: xs, Γ, μ, P => match tf x Γ with
    | some Γ1 => body Γ1 μ ⟨fun Γ' μ' => wForL tf body xs Γ' μ' P, P.rt, P.nx, fun Γ' μ' => wForL tf body xs Γ' μ' P, P.rz⟩
    | none => False
def wFor (tf : D → Gam → Option Gam) (wi : DA) (body : DS) : DS := fun Γ μ P => wi Γ μ (fun ds μ1 => wForL tf body ds Γ μ1 P) P.rz
theorem ds_for {iter : Expr} {tg : Expr} {g : TG} {tf : D → Gam → Option Gam} {wi : DA} {body : List Stmt} {wb : DS} (hp : PassesOwn (model X.prog X.w) X.A X.env X.xe) (hc : X.calm = true) (hi : DI X C W tg iter wi) (hg : DG X tg g tf) (hb : DSs X C W body wb)
    (hs : ∀ x, foldedSetIterable iter X.env x = pure x := by intro _; rfl) : DSt X C W (.For tg iter body [] pos) (wFor tf wi wb) := (ps_for hp hc hi hg.1 hb hs).imp fun D σ H ⟨α, Γ, μ, P, r, w, n, t, b, c, z⟩ => by
  refine ⟨α, Γ, μ, _, _, r, w, fun ds xs J G α1 μ1 H1 w1 r1 m1 i1 k1 g1 => ?_, z⟩
  refine for_wk k1 (fun i σ' H' => ∃ α' Γ' μ', Rl C α' σ' H' Γ' μ' ∧ Mv C α1 μ1 H1 α' μ' H' ∧ wForL tf wb (ds.drop i) Γ' μ' P) ⟨α1, Γ, μ1, r1, Mv.refl, w1⟩ (fun i σ' H' ⟨α', Γ', μ', _, m', _⟩ => g1 α' μ' H' m') ?_ ?_
  · rintro i x σ' H' hx ⟨α', Γ', μ', r', m', w'⟩
    obtain ⟨d, hd, id⟩ := i1.get' hx
    have e : ds.drop i = d :: ds.drop (i + 1) := by
      obtain ⟨hl, he⟩ := List.getElem?_eq_some_iff.mp hd
      rw [List.drop_eq_getElem_cons hl, he]
    rw [e] at w'
    have w' : (match tf d Γ' with | some Γ1 => wb Γ1 μ' ⟨fun Γ' μ' => wForL tf wb (ds.drop (i + 1)) Γ' μ' P, P.rt, P.nx, fun Γ' μ' => wForL tf wb (ds.drop (i + 1)) Γ' μ' P, P.rz⟩ | none => False) := w'
    split at w'
    · rename_i Γ1 ht
      refine hg.2 C α' σ' H' Γ' μ' d x _ Γ1 r' (m'.is id) ht fun σ2 r2 => ?_
      refine ⟨α', Γ1, μ', _, r2, w', fun α3 Γ3 μ3 σ3 H3 w3 r3 m3 => ⟨α3, Γ3, μ3, r3, m'.trans m3, w3⟩, fun d v α3 Γ3 μ3 σ3 H3 w3 r3 m3 i3 => t d v α3 Γ3 μ3 σ3 H3 w3 r3 ((m1.trans m').trans m3) i3,
        fun α3 Γ3 μ3 σ3 H3 w3 r3 m3 => n α3 Γ3 μ3 σ3 H3 w3 r3 ((m1.trans m').trans m3), fun α3 Γ3 μ3 σ3 H3 w3 r3 m3 => ⟨α3, Γ3, μ3, r3, m'.trans m3, w3⟩, z.mv (m1.trans m')⟩
    · exact w'.elim
  · rintro σ' H' ⟨α', Γ', μ', r', m', w'⟩
    rw [← i1.length, List.drop_length] at w'
    exact n α' Γ' μ' σ' H' w' r' (m1.trans m')
def wWhile (wt : DT) (body : DS) : DS := fun Γ μ P => ∃ (I : Nat → Gam → Mem → Prop) (m0 : Nat), I m0 Γ μ ∧ ∀ m Γ μ, I m Γ μ → wt Γ μ (fun b μ1 => if b = true then
  body Γ μ1 ⟨fun Γ' μ' => ∃ m', m' < m ∧ I m' Γ' μ', P.rt, P.nx, fun Γ' μ' => ∃ m', m' < m ∧ I m' Γ' μ', P.rz⟩ else P.nx Γ μ1) P.rz
theorem ds_while {body : List Stmt} {wb : DS} (hp : PassesOwn (model X.prog X.w) X.A X.env X.xe) (hc : DTs X C W c wt) (hb : DSs X C W body wb) : DSt X C W (.While c body [] pos) (wWhile wt wb) := (ps_while hp hc hb).imp fun D σ H ⟨α, Γ, μ, P, r, w, n, t, b, c, z⟩ => by
  obtain ⟨I, m0, w0, turn⟩ := w
  refine ⟨fun m σ' H' => ∃ α' Γ' μ', Rl C α' σ' H' Γ' μ' ∧ Mv C α μ H α' μ' H' ∧ I m Γ' μ', ⟨m0, α, Γ, μ, r, Mv.refl, w0⟩, ?_⟩
  rintro m σ' H' ⟨α', Γ', μ', r', m', w'⟩
  refine ⟨α', Γ', μ', _, _, r', turn m Γ' μ' w', fun k α2 μ2 H2 w2 r2 m2 => ?_, z.mv m'⟩
  cases k with
  | true =>
    refine ⟨fun σ3 H3 => ∃ α3 Γ3 μ3, Rl C α3 σ3 H3 Γ3 μ3 ∧ Mv C α μ H α3 μ3 H3 ∧ ∃ m', m' < m ∧ I m' Γ3 μ3, fun σ3 H3 ⟨α3, Γ3, μ3, r3, m3, q, hq, i3⟩ => ⟨q, hq, α3, Γ3, μ3, r3, m3, i3⟩, ?_⟩
    exact ⟨α2, Γ', μ2, _, r2, w2, fun α3 Γ3 μ3 σ3 H3 w3 r3 m3 => ⟨α3, Γ3, μ3, r3, (m'.trans m2).trans m3, w3⟩, fun d v α3 Γ3 μ3 σ3 H3 w3 r3 m3 i3 => t d v α3 Γ3 μ3 σ3 H3 w3 r3 ((m'.trans m2).trans m3) i3,
        fun α3 Γ3 μ3 σ3 H3 w3 r3 m3 => n α3 Γ3 μ3 σ3 H3 w3 r3 ((m'.trans m2).trans m3), fun α3 Γ3 μ3 σ3 H3 w3 r3 m3 => ⟨α3, Γ3, μ3, r3, (m'.trans m2).trans m3, w3⟩, z.mv (m'.trans m2)⟩
  | false => exact n α2 Γ' μ2 σ' H2 w2 r2 (m'.trans m2)
/-! ### raise, try -/
def wRaise (cl : Addr) : DS := fun Γ μ P => P.rz cl Γ μ
theorem ds_raise {cl : Addr} (h : PS X st (fun _ σ H => W (.ref cl) none σ H)) : DSt X C W st (wRaise cl) := h.imp fun D σ H ⟨α, Γ, μ, P, r, w, n, t, b, c, z⟩ => z cl α Γ μ σ H w r Mv.refl
/-- try: body / except c as n (slot i): v (slot j) = n -/
def wTry (K : PySem.W.Frag) (c : Value) (i j : Nat) (body : DS) : DS := fun Γ μ P => body Γ μ ⟨P.nx, P.rt, P.bk, P.ct, fun cl Γ' μ' => (i < Γ'.length ∧ i ≠ j) ∧ (PySem.W.exmOne K (.ref cl) c = some true ∧ P.nx (((Γ'.set i (some (.exc cl))).set j (some (.exc cl))).set i none) μ' ∨
  PySem.W.exmOne K (.ref cl) c = some false ∧ P.rz cl Γ' μ')⟩
theorem ds_try {x n : Str} {c : Value} {i j : Nat} {body suite : List Stmt} {b₀ : Stmt} {np pos' : Pos} {wb : DS} (hK : X.K = C.K) (hs : X.stack = X.env :: X.outer) (hf : X.env.frame = some X.env.locals) (hN : X.N.Nodup) (hi : X.N[i]? = some n) (hln : X.env.kindOf n = some .local) (hex : X.ex = []) (hc : Names X x c) (tk : Takes X W)
    (hb : ∀ (W : WX) (pn : List (Addr × Obj)) (xe : Value → Shared → Prop), Takes (X.tr pn xe) W → PassesOwn (model X.prog X.w) X.A X.env xe → DSs (X.tr pn xe) C W body wb)
    (hsu : ∀ (a : Addr) (oe : Obj) (cls : Value) (d : Option Addr) (pn : List (Addr × Obj)), Zc cls d oe → (∃ vs, oe.data = .fields vs) → PSs (X.suite a ((a, oe) :: pn)) (b₀ :: suite) (tSeq (tAsg (tVar i) (gName j)) tNext)) :
    DSt X C W (.Try body [.ExceptHandler (some (.Name x np)) (some n) (b₀ :: suite) pos'] [] [] pos) (wTry C.K c i j wb) :=
  (ps_try_hold (tb := fun W => canS C W wb) (ts := fun _ _ _ => tSeq (tAsg (tVar i) (gName j)) tNext) (Wout := W) hs hf hN hi hln hex hc tk hb hsu).imp fun D σ H ⟨α, Γ, μ, P, r, w, n, t, b, cc, z⟩ => by
  refine ⟨α, Γ, μ, _, r, w, n, t, b, cc, fun cl α' Γ' μ' σ' H' w' r' m' => ?_⟩
  obtain ⟨⟨hl, hij⟩, w'⟩ := w'
  rw [hK]
  rcases w' with ⟨h1, w'⟩ | ⟨h1, w'⟩
  · refine ⟨true, h1, fun _ a na => ?_, fun q => nomatch q⟩
    have r2 : Rl C α' σ' (upd H' a (.ext (ExcAt a (.ref cl) none))) Γ' μ' := r'.ext (ex_new na)
    have m2 : Mv C α' μ' H' α' μ' (upd H' a (.ext (ExcAt a (.ref cl) none))) := Mv.ext (ex_new na)
    have ie : Is C.K C.S α' (gk C α' μ' (upd H' a (.ext (ExcAt a (.ref cl) none)))) (.exc cl) (.ref a) := .exc (r'.laid _ na)
    refine ⟨.ref a, ?_, ?_⟩
    · rw [List.getElem?_set_self (by rw [← r'.slen]; exact hl)]
    · exact n α' _ μ' _ _ w' (((r2.setv ie).setv ie).setn) (m'.trans m2)
  · exact ⟨false, h1, (fun q => absurd q Bool.false_ne_true), fun _ => z cl α' Γ' μ' σ' H' w' r' m'⟩
end
end TC

set_option Elab.async false
set_option linter.all false
set_option maxRecDepth 100000
set_option maxHeartbeats 2000000
namespace TC
open PySem PySem.Spec PyProof.Rows L2
section
variable {X : Cx} {C : Cfg} {W : WX} {a b c e o : Expr} {es : List Expr} {st : Stmt} {ss s1 s2 : List Stmt} {wa wb wc we : DX} {wt wu : DT} {ws wr w1 w2 : DS} {was : DA} {pos p : Pos}
/-! ### displays, ifs, and, or, not -/
def wTup (w : DA) : DX := fun Γ μ R Z => w Γ μ (fun ds μ1 => ds.length ≤ big ∧ R (.tup ds) μ1) Z
theorem de_tup {k : Nat} (h : DAs X C W es was) : DE X C W (.Tuple es k pos) (wTup was) := (pe_tupF h).imp fun σ H Q ⟨α, Γ, μ, R, Z, r, w, k, z⟩ =>
  ⟨α, Γ, μ, _, Z, r, w, fun ds vs α1 μ1 H1 w1 r1 m1 i1 => ⟨by rw [← i1.length]; exact big_ok w1.1, fun p ob hp ho => by
    obtain ⟨r2, m2, i2⟩ := r1.tup hp ho i1
    exact k _ _ _ _ _ w1.2 r2 (m1.trans m2) i2⟩, z⟩
def wLst (w : DA) : DX := fun Γ μ R Z => w Γ μ (fun ds μ1 => ds.length ≤ big ∧ R (.lst ds) μ1) Z
theorem de_lst (h : DAs X C W es was) : DE X C W (.List es pos) (wLst was) := (pe_lst h).imp fun σ H Q ⟨α, Γ, μ, R, Z, r, w, k, z⟩ =>
  ⟨α, Γ, μ, _, Z, r, w, fun ds vs α1 μ1 H1 w1 r1 m1 i1 => ⟨by rw [← i1.length]; exact big_ok w1.1, fun p hp => by
    obtain ⟨r2, m2, i2⟩ := r1.lst hp i1
    exact k _ _ _ _ _ w1.2 r2 (m1.trans m2) i2⟩, z⟩
theorem Rl.mlst {α : List Addr} {σ : L2.St} {H : Hp} {Γ : Gam} {μ : Mem} (r : Rl C α σ H Γ μ) {p : Addr} (hp : H p = none) {ds : List D} {xs : List V} (h : Iss C.K C.S α (gk C α μ H) ds xs) :
    Rl C (α ++ [p]) σ (upd H p (.lst xs)) Γ (μ ++ [.lst ds]) ∧ Mv C α μ H (α ++ [p]) (μ ++ [.lst ds]) (upd H p (.lst xs)) ∧ Is C.K C.S (α ++ [p]) (gk C (α ++ [p]) (μ ++ [.lst ds]) (upd H p (.lst xs))) (.mt μ.length) (.ref p) := by
  obtain ⟨r2, m2⟩ := r.grow (o := .lst xs) (c := .lst ds) hp ⟨xs, upd_same, h⟩ (fun q => nomatch q)
  exact ⟨r2, m2, .mt (by rw [← r.len]; simp)⟩
/-- a list that will change -/
def wLstM (w : DA) : DX := fun Γ μ R Z => w Γ μ (fun ds μ1 => ds.length ≤ big ∧ R (.mt μ1.length) (μ1 ++ [.lst ds])) Z
theorem de_lstM (h : DAs X C W es was) : DE X C W (.List es pos) (wLstM was) := (pe_lst h).imp fun σ H Q ⟨α, Γ, μ, R, Z, r, w, k, z⟩ =>
  ⟨α, Γ, μ, _, Z, r, w, fun ds vs α1 μ1 H1 w1 r1 m1 i1 => ⟨by rw [← i1.length]; exact big_ok w1.1, fun p hp => by
    obtain ⟨r2, m2, i2⟩ := r1.mlst hp i1
    exact k _ _ _ _ _ w1.2 r2 (m1.trans m2) i2⟩, z⟩
/-- a mutable thing comes to rest and is handed on -/
def fFrz (d : D) (μ : Mem) (R : RD) : Prop := match d with
  | .mt k => match μ[k]? with
    | some (.lst ds) => R (.lst ds) (μ.set k .dead)
    | some (.dk ks ds) => R (.dk ks ds) (μ.set k .dead)
    | some (.dt ks ds) => R (.dt ks ds) (μ.set k .dead)
    | _ => False
  | d => R d μ
def wFrz (we : DX) : DX := fun Γ μ R Z => we Γ μ (fun d μ1 => fFrz d μ1 R) Z
theorem de_frz (h : DE X C W e we) : DE X C W e (wFrz we) := PE.imp h fun σ H Q ⟨α, Γ, μ, R, Z, r, w, k, z⟩ =>
  ⟨α, Γ, μ, _, Z, r, w, fun d v α1 μ1 H1 w1 r1 m1 i1 => by
    cases d with
    | mt n =>
      cases i1 with
      | mt hk =>
        have w1 : (match μ1[n]? with | some (.lst ds) => R (.lst ds) (μ1.set n .dead) | some (.dk ks ds) => R (.dk ks ds) (μ1.set n .dead) | some (.dt ks ds) => R (.dt ks ds) (μ1.set n .dead) | _ => False) := w1
        obtain ⟨r2, m2⟩ := r1.kill (k := n)
        have fr : μ1[n]? ≠ none → ¬ Hid C α1 (μ1.set n .dead) _ := fun q => r2.dead_free hk (by
          cases hq : μ1[n]? with
          | none => exact absurd hq q
          | some c => rw [List.getElem?_set_self (List.getElem?_eq_some_iff.mp hq).1])
        split at w1
        · rename_i ds hq
          obtain ⟨xs, h1, h2⟩ := r1.cells n _ _ hk hq
          exact k _ _ _ _ _ w1 r2 (m1.trans m2) (.lst (gk_of h1 (fr (by rw [hq]; exact fun q => nomatch q))) (m2.iss h2))
        · rename_i ks ds hq
          obtain ⟨xs, h1, h2, h3⟩ := r1.cells n _ _ hk hq
          exact k _ _ _ _ _ w1 r2 (m1.trans m2) (.dk (gk_of h1 (fr (by rw [hq]; exact fun q => nomatch q))) h2 (m2.iss h3))
        · rename_i ks ds hq
          obtain ⟨xs, h1, h2, h3⟩ := r1.cells n _ _ hk hq
          exact k _ _ _ _ _ w1 r2 (m1.trans m2) (.dt (gk_of h1 (fr (by rw [hq]; exact fun q => nomatch q))) h2 (m2.iss h3))
        · exact w1.elim
    | _ => exact k _ _ _ _ _ w1 r1 m1 i1, z⟩
def wIte (wt : DT) (wa wb : DX) : DX := fun Γ μ R Z => wt Γ μ (fun k μ1 => if k = true then wa Γ μ1 R Z else wb Γ μ1 R Z) Z
theorem de_ite (hc : DTs X C W c wt) (ha : DE X C W a wa) (hb : DE X C W b wb) : DE X C W (.IfExp c a b pos) (wIte wt wa wb) := (pe_ifExp hc ha hb).imp fun σ H Q ⟨α, Γ, μ, R, Z, r, w, k, z⟩ =>
  ⟨α, Γ, μ, _, Z, r, w, fun n α1 μ1 H1 w1 r1 m1 => by
    cases n with
    | true => exact ⟨α1, Γ, μ1, R, Z, r1, w1, fun d v α2 μ2 H2 w2 r2 m2 i2 => k d v α2 μ2 H2 w2 r2 (m1.trans m2) i2, z.mv m1⟩
    | false => exact ⟨α1, Γ, μ1, R, Z, r1, w1, fun d v α2 μ2 H2 w2 r2 m2 i2 => k d v α2 μ2 H2 w2 r2 (m1.trans m2) i2, z.mv m1⟩, z⟩
def bOf (d : D) (k : Bool → Prop) : Prop := match d with
  | .bl b => k b
  | _ => False
/-- and, or, not of truths, as values -/
def wAndV (wa wb : DX) : DX := fun Γ μ R Z => wa Γ μ (fun d μ1 => bOf d fun k => if k = true then wb Γ μ1 R Z else R (.bl false) μ1) Z
def wOrV (wa wb : DX) : DX := fun Γ μ R Z => wa Γ μ (fun d μ1 => bOf d fun k => if k = true then R (.bl true) μ1 else wb Γ μ1 R Z) Z
def wNotV (wa : DX) : DX := fun Γ μ R Z => wa Γ μ (fun d μ1 => bOf d fun k => R (.bl (!k)) μ1) Z
theorem bOf_is {K : PySem.W.Frag} {S : Sts} {α : List Addr} {G : Hp} {d : D} {v : V} {k : Bool → Prop} (h : bOf d k) (i : Is K S α G d v) : ∃ n, v = .bl n ∧ k n := by
  cases d <;> first | exact h.elim | skip
  cases i
  exact ⟨_, rfl, h⟩
theorem de_one {op : BoolOp} (h : DE X C W a wa) : DE X C W (.BoolOp op [a] pos) wa := pe_one h
theorem de_and {rest : List Expr} (ha : DE X C W a wa) (hb : DE X C W (.BoolOp .And (b :: rest) pos) wb) : DE X C W (.BoolOp .And (a :: b :: rest) pos) (wAndV wa wb) := (pe_and ha hb).imp fun σ H Q ⟨α, Γ, μ, R, Z, r, w, k, z⟩ =>
  ⟨α, Γ, μ, _, Z, r, w, fun d v α1 μ1 H1 w1 r1 m1 i1 => by
    obtain ⟨n, rfl, w1⟩ := bOf_is w1 i1
    refine ⟨n, rfl, ?_⟩
    cases n with
    | true => exact ⟨α1, Γ, μ1, R, Z, r1, w1, fun d v α2 μ2 H2 w2 r2 m2 i2 => k d v α2 μ2 H2 w2 r2 (m1.trans m2) i2, z.mv m1⟩
    | false => exact k _ _ _ _ _ w1 r1 m1 (.bl _), z⟩
theorem de_or {rest : List Expr} (ha : DE X C W a wa) (hb : DE X C W (.BoolOp .Or (b :: rest) pos) wb) : DE X C W (.BoolOp .Or (a :: b :: rest) pos) (wOrV wa wb) := (pe_or ha hb).imp fun σ H Q ⟨α, Γ, μ, R, Z, r, w, k, z⟩ =>
  ⟨α, Γ, μ, _, Z, r, w, fun d v α1 μ1 H1 w1 r1 m1 i1 => by
    obtain ⟨n, rfl, w1⟩ := bOf_is w1 i1
    refine ⟨n, rfl, ?_⟩
    cases n with
    | true => exact k _ _ _ _ _ w1 r1 m1 (.bl _)
    | false => exact ⟨α1, Γ, μ1, R, Z, r1, w1, fun d v α2 μ2 H2 w2 r2 m2 i2 => k d v α2 μ2 H2 w2 r2 (m1.trans m2) i2, z.mv m1⟩, z⟩
theorem de_not (ha : DE X C W a wa) : DE X C W (.UnaryOp .Not a pos) (wNotV wa) := (pe_not ha).imp fun σ H Q ⟨α, Γ, μ, R, Z, r, w, k, z⟩ =>
  ⟨α, Γ, μ, _, Z, r, w, fun d v α1 μ1 H1 w1 r1 m1 i1 => by
    obtain ⟨n, rfl, w1⟩ := bOf_is w1 i1
    exact ⟨n, rfl, k _ _ _ _ _ w1 r1 m1 (.bl _)⟩, z⟩
def wNeg (wa : DX) : DX := fun Γ μ R Z => wa Γ μ (fun d μ1 => match d with | .int i => R (.int (-i)) μ1 | _ => False) Z
theorem de_neg (ha : DE X C W a wa) : DE X C W (.UnaryOp .USub a pos) (wNeg wa) := (pe_un un_neg ha).imp fun σ H Q ⟨α, Γ, μ, R, Z, r, w, k, z⟩ =>
  ⟨α, Γ, μ, _, Z, r, w, fun d v α1 μ1 H1 w1 r1 m1 i1 => by
    cases d <;> first | exact w1.elim | skip
    cases i1
    exact ⟨_, rfl, k _ _ _ _ _ w1 r1 m1 (.int _)⟩, z⟩
/-! ### tests -/
def DWs (X : Cx) (C : Cfg) (W : WX) (e : Expr) (w : DT) : Prop := PW X e (canT C W w)
def wAnd (w u : DT) : DT := fun Γ μ R Z => w Γ μ (fun k μ1 => if k = true then u Γ μ1 R Z else R false μ1) Z
def wOr (w u : DT) : DT := fun Γ μ R Z => w Γ μ (fun k μ1 => if k = true then R true μ1 else u Γ μ1 R Z) Z
def wNot (w : DT) : DT := fun Γ μ R Z => w Γ μ (fun k μ1 => R (!k) μ1) Z
theorem _root_.L2.PW.imp {X : Cx} {e : Expr} {t t' : TT} (h : PW X e t) (k : ∀ σ H Q, t' σ H Q → t σ H Q) : PW X e t' := ⟨fun wh pins s σ H Q I q => h.run wh pins s σ H Q I (k _ _ _ q)⟩
theorem dw_pt (h : DWs X C W e wt) : DTs X C W e wt := PW.pt h
theorem dw_and1 (h : DTs X C W a wt) : DWs X C W (.BoolOp .And [a] pos) wt := pw_and1 h
theorem dw_or1 (h : DTs X C W a wt) : DWs X C W (.BoolOp .Or [a] pos) wt := pw_or1 h
theorem dw_and {rest : List Expr} (ha : DTs X C W a wt) (hb : DWs X C W (.BoolOp .And (b :: rest) pos) wu) : DWs X C W (.BoolOp .And (a :: b :: rest) pos) (wAnd wt wu) := (pw_and ha hb).imp fun σ H Q ⟨α, Γ, μ, R, Z, r, w, k, z⟩ =>
  ⟨α, Γ, μ, _, Z, r, w, fun n α1 μ1 H1 w1 r1 m1 => by
    cases n with
    | true => exact ⟨α1, Γ, μ1, R, Z, r1, w1, fun b α2 μ2 H2 w2 r2 m2 => k b α2 μ2 H2 w2 r2 (m1.trans m2), z.mv m1⟩
    | false => exact k _ _ _ _ w1 r1 m1, z⟩
theorem dw_or {rest : List Expr} (ha : DTs X C W a wt) (hb : DWs X C W (.BoolOp .Or (b :: rest) pos) wu) : DWs X C W (.BoolOp .Or (a :: b :: rest) pos) (wOr wt wu) := (pw_or ha hb).imp fun σ H Q ⟨α, Γ, μ, R, Z, r, w, k, z⟩ =>
  ⟨α, Γ, μ, _, Z, r, w, fun n α1 μ1 H1 w1 r1 m1 => by
    cases n with
    | true => exact k _ _ _ _ w1 r1 m1
    | false => exact ⟨α1, Γ, μ1, R, Z, r1, w1, fun b α2 μ2 H2 w2 r2 m2 => k b α2 μ2 H2 w2 r2 (m1.trans m2), z.mv m1⟩, z⟩
theorem dt_not (ha : DTs X C W a wt) : DTs X C W (.UnaryOp .Not a pos) (wNot wt) := (pt_not ha).imp fun σ H Q ⟨α, Γ, μ, R, Z, r, w, k, z⟩ =>
  ⟨α, Γ, μ, _, Z, r, w, fun n α1 μ1 H1 w1 r1 m1 => k _ _ _ _ w1 r1 m1, z⟩

/-! ### calls of builtins -/
def SndCall (C : Cfg) (r : List V → Hp → VK → Prop) (f : List D → Mem → RD → Prop) : Prop := ∀ (ds : List D) (vs : List V) (α : List Addr) (σ : L2.St) (H : Hp) (Γ : Gam) (μ : Mem) (R : RD) (Q : VK), Rl C α σ H Γ μ →
  Iss C.K C.S α (gk C α μ H) ds vs → f ds μ R → (∀ d v' α' μ' H', R d μ' → Rl C α' σ H' Γ μ' → Mv C α μ H α' μ' H' → Is C.K C.S α' (gk C α' μ' H') d v' → Q v' H') → r vs H Q
def wCB (f : List D → Mem → RD → Prop) (was : DA) : DX := fun Γ μ R Z => was Γ μ (fun ds μ1 => f ds μ1 R) Z
theorem de_cb {r : List V → Hp → VK → Prop} {f : List D → Mem → RD → Prop} (sn : SndCall C r f) (h : PE X e (tCB r (canA C W was))) : DE X C W e (wCB f was) := h.imp fun σ H Q ⟨α, Γ, μ, R, Z, r, w, k, z⟩ =>
  ⟨α, Γ, μ, _, Z, r, w, fun ds vs α1 μ1 H1 w1 r1 m1 i1 => sn ds vs α1 σ H1 Γ μ1 R Q r1 i1 w1 fun d v' α' μ' H' w2 r2 m2 i2 => k d v' α' μ' H' w2 r2 (m1.trans m2) i2, z⟩
def dLen : List D → Mem → RD → Prop := fun ds μ R => match ds with
  | [x] => match items x μ with
    | some ys => R (.int (ys.length : Int)) μ
    | none => False
  | _ => False
theorem iss1 {K : PySem.W.Frag} {S : Sts} {α : List Addr} {G : Hp} {x : D} {vs : List V} (h : Iss K S α G [x] vs) : ∃ v, vs = [v] ∧ Is K S α G x v := by
  cases h with
  | cons h r => cases r; exact ⟨_, rfl, h⟩
theorem iss2 {K : PySem.W.Frag} {S : Sts} {α : List Addr} {G : Hp} {x y : D} {vs : List V} (h : Iss K S α G [x, y] vs) : ∃ v u, vs = [v, u] ∧ Is K S α G x v ∧ Is K S α G y u := by
  cases h with
  | cons h r =>
    obtain ⟨u, rfl, h2⟩ := iss1 r
    exact ⟨_, _, rfl, h, h2⟩
theorem sn_len : SndCall C (fun xs H Q => ∃ p ys, xs = [.ref p] ∧ (SqL C.K H p ys ∨ SqT C.K H p ys) ∧ Q (.int ys.length) H) dLen := by
  intro ds vs α σ H Γ μ R Q r i w k
  unfold dLen at w
  split at w
  · obtain ⟨v, rfl, h⟩ := iss1 i
    split at w
    · rename_i ys hi
      obtain ⟨p, xs, rfl, hs, q⟩ := r.items h hi
      rw [q.length] at w
      exact ⟨p, xs, rfl, hs, k _ _ _ _ _ w r Mv.refl (.int _)⟩
    · exact w.elim
  · exact w.elim
def dTupOf : List D → Mem → RD → Prop := fun ds μ R => match ds with
  | [x] => match items x μ with
    | some ys => R (.tup ys) μ
    | none => False
  | _ => False
theorem sn_tupOf : SndCall C (rTupOf C.K) dTupOf := by
  intro ds vs α σ H Γ μ R Q r i w k
  unfold dTupOf at w
  split at w
  · obtain ⟨v, rfl, h⟩ := iss1 i
    split at w
    · rename_i ys hi
      cases h with
      | tup h q =>
        cases hi
        exact ⟨_, _, rfl,   .inr ⟨gk_ex.t h.sq, k _ _ _ _ _ w r Mv.refl (.tup h q)⟩⟩
      | lst h q =>
        cases hi
        refine ⟨_, _, rfl, .inl ⟨SqL.of (gk_ex _ _ h), fun l ob hl ho => ?_⟩⟩
        obtain ⟨r2, m2, i2⟩ := r.tup hl ho q
        exact k _ _ _ _ _ w r2 m2 i2
      | scr h =>
        cases hi
        refine ⟨_, _, rfl, .inl ⟨gk_ex.l h, fun l ob hl ho => ?_⟩⟩
        obtain ⟨r2, m2, i2⟩ := r.tup hl ho (Iss.of_ints _)
        exact k _ _ _ _ _ w r2 m2 i2
      | mt hk =>
        obtain ⟨p, xs, e, hs, q⟩ := r.items (.mt hk) hi
        cases e
        rename_i n
        have hi : (match μ[n]? with | some (.lst ds) => some ds | _ => none) = some ys := hi
        split at hi
        · rename_i ds' hq
          cases hi
          obtain ⟨zs, h1, h2⟩ := r.cells n _ _ hk hq
          refine ⟨_, zs, rfl, .inl ⟨SqL.of h1, fun l ob hl ho => ?_⟩⟩
          obtain ⟨r2, m2, i2⟩ := r.tup hl ho h2
          exact k _ _ _ _ _ w r2 m2 i2
        · cases hi
      | _ => cases hi
    · exact w.elim
  · exact w.elim
def dLstOf : List D → Mem → RD → Prop := fun ds μ R => match ds with
  | [x] => match items x μ with
    | some ys => R (.lst ys) μ
    | none => False
  | _ => False
def dLstOfM : List D → Mem → RD → Prop := fun ds μ R => match ds with
  | [x] => match items x μ with
    | some ys => R (.mt μ.length) (μ ++ [.lst ys])
    | none => False
  | _ => False
theorem sn_lstOf : SndCall C (fun xs H Q => ∃ p ys, xs = [.ref p] ∧ (SqL C.K H p ys ∨ SqT C.K H p ys) ∧ ∀ l, H l = none → Q (.ref l) (upd H l (.lst ys))) dLstOf := by
  intro ds vs α σ H Γ μ R Q r i w k
  unfold dLstOf at w
  split at w
  · obtain ⟨v, rfl, h⟩ := iss1 i
    split at w
    · rename_i ys hi
      obtain ⟨p, xs, rfl, hs, q⟩ := r.items h hi
      refine ⟨p, xs, rfl, hs, fun l hl => ?_⟩
      obtain ⟨r2, m2, i2⟩ := r.lst hl q
      exact k _ _ _ _ _ w r2 m2 i2
    · exact w.elim
  · exact w.elim
theorem sn_lstOfM : SndCall C (fun xs H Q => ∃ p ys, xs = [.ref p] ∧ (SqL C.K H p ys ∨ SqT C.K H p ys) ∧ ∀ l, H l = none → Q (.ref l) (upd H l (.lst ys))) dLstOfM := by
  intro ds vs α σ H Γ μ R Q r i w k
  unfold dLstOfM at w
  split at w
  · obtain ⟨v, rfl, h⟩ := iss1 i
    split at w
    · rename_i ys hi
      obtain ⟨p, xs, rfl, hs, q⟩ := r.items h hi
      refine ⟨p, xs, rfl, hs, fun l hl => ?_⟩
      obtain ⟨r2, m2, i2⟩ := r.mlst hl q
      exact k _ _ _ _ _ w r2 m2 i2
    · exact w.elim
  · exact w.elim
def dAll : List D → Mem → RD → Prop := fun ds μ R => match ds with
  | [x] => ∃ bs : List Bool, items x μ = some (bs.map D.bl) ∧ R (.bl (bs.all id)) μ
  | _ => False
theorem sn_all : SndCall C (fun vs H Q => ∃ (a : Addr) (bs : List Bool), vs = [V.ref a] ∧ SqL C.K H a (bs.map V.bl) ∧ Q (.bl (bs.all id)) H) (fun ds μ R => dAll ds μ R ∧ ∀ ys, ds ≠ [.tup ys]) := by
  intro ds vs α σ H Γ μ R Q r i ⟨w, nt⟩ k
  unfold dAll at w
  split at w
  · obtain ⟨v, rfl, h⟩ := iss1 i
    obtain ⟨bs, hi, w⟩ := w
    obtain ⟨p, xs, rfl, hs, q⟩ := r.items h hi
    have e := q.bls
    subst e
    refine ⟨p, bs, rfl, ?_, k _ _ _ _ _ w r Mv.refl (.bl _)⟩
    cases h with
    | lst h q2 =>
      cases hi
      have e := q2.bls
      subst e
      exact SqL.of (gk_ex _ _ h)
    | tup h q2 => exact absurd rfl (nt _)
    | scr h =>
      rename_i ns
      have hi : some (ns.map D.int) = some (bs.map D.bl) := hi
      cases ns with
      | nil =>
        cases bs with
        | nil => exact gk_ex.l h
        | cons b bs => simp at hi
      | cons n ns =>
        cases bs with
        | nil => simp at hi
        | cons b bs => simp at hi
    | mt hk =>
      rename_i n
      have hi : (match μ[n]? with | some (.lst ds) => some ds | _ => none) = some (bs.map D.bl) := hi
      split at hi
      · rename_i ds' hq
        cases hi
        obtain ⟨zs, h1, h2⟩ := r.cells n _ _ hk hq
        have e := h2.bls
        subst e
        exact SqL.of h1
      · cases hi
    | _ => cases hi
  · exact w.elim
def dSorted : List D → Mem → RD → Prop := fun ds μ R => match ds with
  | [x] => ∃ ns : List Int, items x μ = some (ns.map D.int) ∧ ns.length < 64 ∧ ∀ ns' : List Int, ns'.Perm ns → ns'.Pairwise (· ≤ ·) → R (.lst (ns'.map D.int)) μ
  | _ => False
theorem sn_sorted : SndCall C (fun vs H Q => rSorted C.K vs H Q ∨ rSortedTup C.K vs H Q) dSorted := by
  intro ds vs α σ H Γ μ R Q r i w k
  unfold dSorted at w
  split at w
  · obtain ⟨v, rfl, h⟩ := iss1 i
    obtain ⟨ns, hi, h64, w⟩ := w
    obtain ⟨p, xs, rfl, hs, q⟩ := r.items h hi
    have e := q.ints
    subst e
    rcases hs with hs | hs
    · refine .inl ⟨p, ns, rfl, hs, h64, fun ns' l h1 h2 hl => ?_⟩
      obtain ⟨r2, m2, i2⟩ := r.lst hl (Iss.of_ints ns')
      exact k _ _ _ _ _ (w ns' h1 h2) r2 m2 i2
    · refine .inr ⟨p, ns, rfl, hs, h64, fun ns' l h1 h2 hl => ?_⟩
      obtain ⟨r2, m2, i2⟩ := r.lst hl (Iss.of_ints ns')
      exact k _ _ _ _ _ (w ns' h1 h2) r2 m2 i2
  · exact w.elim
def dAbs : List D → Mem → RD → Prop := fun ds μ R => match ds with
  | [.int i] => R (.int (if i < 0 then -i else i)) μ
  | _ => False
theorem sn_abs : SndCall C (fun xs H Q => ∃ i, xs = [.int i] ∧ Q (.int (if i < 0 then -i else i)) H) dAbs := by
  intro ds vs α σ H Γ μ R Q r i w k
  unfold dAbs at w
  split at w
  · obtain ⟨v, rfl, h⟩ := iss1 i
    cases h
    exact ⟨_, rfl, k _ _ _ _ _ w r Mv.refl (.int _)⟩
  · exact w.elim
def dStr : List D → Mem → RD → Prop := fun ds μ R => match ds with
  | [.int i] => i.natAbs.log2 < 1920 ∧ R (.str (toString i)) μ
  | _ => False
theorem sn_str : SndCall C (fun xs H Q => ∃ i, xs = [.int i] ∧ i.natAbs.log2 < 1920 ∧ Q (.str (toString i)) H) dStr := by
  intro ds vs α σ H Γ μ R Q r i w k
  unfold dStr at w
  split at w
  · obtain ⟨v, rfl, h⟩ := iss1 i
    cases h
    exact ⟨_, rfl, w.1, k _ _ _ _ _ w.2 r Mv.refl (.str _)⟩
  · exact w.elim
/-! isinstance -/
def tyN : D → Option String
  | .non => some "NoneType"
  | .bl _ => some "bool"
  | .int _ => some "int"
  | .str _ => some "str"
  | .tup _ => some "tuple"
  | .lst _ => some "list"
  | .dk _ _ => some "dict"
  | .dt _ _ => some "dict"
  | _ => none
def isi (t c : String) : Bool := t == c || (t == "bool" && c == "int")
def tyAll : List String := ["NoneType", "bool", "int", "str", "tuple", "list", "dict"]
theorem isi_ok : ∀ t ∈ tyAll, ∀ c ∈ ["int", "bool", "tuple", "list", "str", "dict"], kitB t c = some (isi t c) := by decide +kernel
theorem Is.tyx {K : PySem.W.Frag} {S : Sts} {α : List Addr} {d : D} {v : V} {H : Hp} (h : Is K S α H d v) {n : String} (e : tyN d = some n) : TyX K H v (.type n) ∧ n ∈ tyAll := by
  cases h with
  | non => cases e; exact ⟨.base .non, by decide⟩
  | bl b => cases e; exact ⟨.base (.bl b), by decide⟩
  | int b => cases e; exact ⟨.base (.int b), by decide⟩
  | str b => cases e; exact ⟨.base (.str b), by decide⟩
  | tup h q =>
    cases e
    refine ⟨?_, by decide⟩
    rcases h with ⟨o, h, _⟩ | ⟨o, its, n, h1, h2, _⟩
    · exact .fTuple h
    · exact .kTuple h1 h2
  | lst h q => cases e; exact ⟨.base (.lst h), by decide⟩
  | dk h q => cases e; exact ⟨.base (.dK h), by decide⟩
  | dt h q => cases e; exact ⟨.base (.dT h), by decide⟩
  | _ => cases e
def dIsi (K : PySem.W.Frag) : List D → Mem → RD → Prop := fun ds μ R => match ds with
  | [x, .ty c] => match x with
    | .exc cl => ∃ b, (ExcC K cl ∧ PySem.W.kitOne K (.ref cl) (.type c) = some b) ∧ R (.bl b) μ
    | _ => match tyN (res x μ) with
      | some n => (["int", "bool", "tuple", "list", "str", "dict"].contains c) = true ∧ R (.bl (isi n c)) μ
      | none => False
  | [.exc cl, .own g] => ∃ b, (ExcC K cl ∧ PySem.W.kitOne K (.ref cl) (.ref g) = some b) ∧ R (.bl b) μ
  | _ => False
theorem sn_isi : SndCall C (rIsAny C.K) (dIsi C.K) := by
  intro ds vs α σ H Γ μ R Q r i w k
  unfold dIsi at w
  split at w
  · rename_i x c
    obtain ⟨v, u, rfl, h1, h2⟩ := iss2 i
    cases h2
    split at w
    · rename_i cl
      obtain ⟨b, ⟨x1, x2⟩, w⟩ := w
      cases h1 with
      | exc h => exact .inr ⟨_, cl, _, _, b, rfl, gk_ex _ _ h, x1, .ty c, x2, k _ _ _ _ _ w r Mv.refl (.bl _)⟩
    · split at w
      · rename_i n hn
        obtain ⟨hc, w⟩ := w
        obtain ⟨ty, hm⟩ := (r.res h1).tyx hn
        exact .inl ⟨_, _, _, _, _, rfl, .ty c, ty, kit_ty (isi_ok n hm c (by simpa using hc)), k _ _ _ _ _ w r Mv.refl (.bl _)⟩
      · exact w.elim
  · rename_i cl g
    obtain ⟨v, u, rfl, h1, h2⟩ := iss2 i
    obtain ⟨b, ⟨x1, x2⟩, w⟩ := w
    cases h2
    cases h1 with
    | exc h => exact .inr ⟨_, cl, _, _, b, rfl, gk_ex _ _ h, x1, .own _, x2, k _ _ _ _ _ w r Mv.refl (.bl _)⟩
  · exact w.elim
end
end TC

set_option Elab.async false
set_option linter.all false
set_option maxRecDepth 100000
set_option maxHeartbeats 2000000
namespace TC
open PySem PySem.Spec PyProof.Rows L2
section
variable {X : Cx} {C : Cfg} {W : WX} {a b c e o : Expr} {es : List Expr} {st : Stmt} {wa wb wc we wo : DX} {was : DA} {pos p : Pos}
/-! ### methods -/
def SndMt (C : Cfg) (r : V → List V → Hp → VK → Prop) (f : D → List D → Mem → RD → Prop) : Prop := ∀ (x : D) (v : V) (ds : List D) (vs : List V) (α : List Addr) (σ : L2.St) (H : Hp) (Γ : Gam) (μ : Mem) (R : RD) (Q : VK), Rl C α σ H Γ μ →
  Is C.K C.S α (gk C α μ H) x v → Iss C.K C.S α (gk C α μ H) ds vs → f x ds μ R → (∀ d v' α' μ' H', R d μ' → Rl C α' σ H' Γ μ' → Mv C α μ H α' μ' H' → Is C.K C.S α' (gk C α' μ' H') d v' → Q v' H') → r v vs H Q
def isLst (d : D) (μ : Mem) : Bool := match d with
  | .lst _ => true
  | .mt k => match μ[k]? with
    | some (.lst _) => true
    | _ => false
  | _ => false
def wMeth (f : D → List D → Mem → RD → Prop) (wo : DX) (was : DA) : DX := fun Γ μ R Z => wo Γ μ (fun d μ1 => isLst d μ1 = true ∧ was Γ μ1 (fun ds μ2 => f d ds μ2 R) Z) Z
theorem isLst_ty {α : List Addr} {σ : L2.St} {H : Hp} {Γ : Gam} {μ : Mem} {d : D} {v : V} (r : Rl C α σ H Γ μ) (h : Is C.K C.S α (gk C α μ H) d v) (l : isLst d μ = true) : tyV C.K "list" v H := by
  cases h with
  | lst h q => exact .inl ⟨rfl, _, SqL.of (gk_ex _ _ h)⟩
  | mt hk =>
    rename_i n
    have l : (match μ[n]? with | some (.lst _) => true | _ => false) = true := l
    split at l
    · rename_i ds hq
      obtain ⟨xs, h1, _⟩ := r.cells n _ _ hk hq
      exact .inl ⟨rfl, _, SqL.of h1⟩
    · cases l
  | _ => cases l
theorem de_meth {r : V → List V → Hp → VK → Prop} {f : D → List D → Mem → RD → Prop} (hK : X.K = C.K) (sn : SndMt C r f) (h : PE X e (tBM X.K "list" r (canE C W wo) (canA C W was))) : DE X C W e (wMeth f wo was) := h.imp fun σ H Q ⟨α, Γ, μ, R, Z, r, w, k, z⟩ => by
  rw [hK]
  refine ⟨α, Γ, μ, _, Z, r, w, fun d v α1 μ1 H1 w1 r1 m1 i1 => ⟨isLst_ty r1 i1 w1.1, ?_⟩, z⟩
  exact ⟨α1, Γ, μ1, _, Z, r1, w1.2, fun ds vs α2 μ2 H2 w2 r2 m2 i2 => sn d v ds vs α2 σ H2 Γ μ2 R Q r2 (m2.is i1) i2 w2 fun d v' α' μ' H' w3 r3 m3 i3 => k d v' α' μ' H' w3 r3 ((m1.trans m2).trans m3) i3, z.mv m1⟩
def wMethT (f : D → List D → Mem → RD → Prop) (wo : DX) (was : DA) : DX := fun Γ μ R Z => wo Γ μ (fun d μ1 => match d with
  | .tup _ => was Γ μ1 (fun ds μ2 => f d ds μ2 R) Z
  | _ => False) Z
theorem de_methT {r : V → List V → Hp → VK → Prop} {f : D → List D → Mem → RD → Prop} (hK : X.K = C.K) (sn : SndMt C r f) (h : PE X e (tBT X.K r (canE C W wo) (canA C W was))) : DE X C W e (wMethT f wo was) := h.imp fun σ H Q ⟨α, Γ, μ, R, Z, r, w, k, z⟩ => by
  rw [hK]
  refine ⟨α, Γ, μ, _, Z, r, w, fun d v α1 μ1 H1 w1 r1 m1 i1 => ?_, z⟩
  cases i1 with
  | tup h q =>
    refine ⟨⟨_, _, rfl, gk_ex.tupd h⟩, ?_⟩
    exact ⟨α1, Γ, μ1, _, Z, r1, w1, fun ds vs α2 μ2 H2 w2 r2 m2 i2 => sn _ _ ds vs α2 σ H2 Γ μ2 R Q r2 (m2.is (.tup h q)) i2 w2 fun d v' α' μ' H' w3 r3 m3 i3 => k d v' α' μ' H' w3 r3 ((m1.trans m2).trans m3) i3, z.mv m1⟩
  | _ => exact w1.elim
def dAppend : D → List D → Mem → RD → Prop := fun x ds μ R => match x, ds with
  | .mt k, [y] => match μ[k]? with
    | some (.lst xs) => xs.length < big ∧ R .non (μ.set k (.lst (xs ++ [y])))
    | _ => False
  | _, _ => False
theorem sn_append : SndMt C rAppend dAppend := by
  intro x v ds vs α σ H Γ μ R Q r ix is w k
  unfold dAppend at w
  split at w
  · rename_i n y
    obtain ⟨u, rfl, hu⟩ := iss1 is
    cases ix with
    | mt hk =>
      split at w
      · rename_i xs hq
        obtain ⟨zs, h1, h2⟩ := r.cells n _ _ hk hq
        obtain ⟨r2, m2⟩ := r.write (o := .lst (zs ++ [u])) (c := .lst (xs ++ [y])) hk (by rw [hq]; exact fun q => nomatch q) ⟨_, upd_same, h2.append (.cons hu .nil)⟩ (fun q => nomatch q)
        exact ⟨_, zs, u, rfl, rfl, h1, by rw [← h2.length]; exact big_lt w.1, k _ _ _ _ _ w.2 r2 m2 .non⟩
      · exact w.elim
  · exact w.elim
def dPopAt : D → List D → Mem → RD → Prop := fun x ds μ R => match x, ds with
  | .mt k, [.int i] => match μ[k]? with
    | some (.lst xs) => (0 ≤ i ∧ i < 1000000) ∧ ∃ d, xs[i.toNat]? = some d ∧ R d (μ.set k (.lst (xs.eraseIdx i.toNat)))
    | _ => False
  | _, _ => False
theorem sn_popAt : SndMt C rPopAt dPopAt := by
  intro x v ds vs α σ H Γ μ R Q r ix is w k
  unfold dPopAt at w
  split at w
  · rename_i n i
    obtain ⟨u, rfl, hu⟩ := iss1 is
    cases hu
    cases ix with
    | mt hk =>
      split at w
      · rename_i xs hq
        obtain ⟨⟨hi, hi2⟩, d, hd, w⟩ := w
        obtain ⟨zs, h1, h2⟩ := r.cells n _ _ hk hq
        obtain ⟨r2, m2⟩ := r.write (o := .lst (zs.eraseIdx i.toNat)) (c := .lst (xs.eraseIdx i.toNat)) hk (by rw [hq]; exact fun q => nomatch q) ⟨_, upd_same, h2.eraseIdx _⟩ (fun q => nomatch q)
        obtain ⟨u, hu, iu⟩ := h2.get hd
        have hl := (List.getElem?_eq_some_iff.mp hu).1
        refine ⟨_, zs, i, i.toNat, u, rfl, rfl, h1, by omega, by omega, ?_, hu, k _ _ _ _ _ w r2 m2 (m2.is iu)⟩
        unfold seqIndex?
        simp only [Bool.and_eq_true, decide_eq_true_eq]
        first
          | (rw [if_pos (by omega)]; done)
          | (simp; omega)
      · exact w.elim
  · exact w.elim
def dCount : D → List D → Mem → RD → Prop := fun x ds μ R => match ds with
  | [y] => match items x μ with
    | some xs => (flatD y = true ∧ xs.all flatD = true) ∧ R (.int (xs.countP fun z => deq z y : Nat)) μ
    | none => False
  | _ => False
theorem countP_of {K : PySem.W.Frag} {S : Sts} {α : List Addr} {G : Hp} {x : D} {v : V} (h1 : Is K S α G x v) (f1 : flatD x = true) : ∀ {ds : List D} {vs : List V}, Iss K S α G ds vs → ds.all flatD = true → (vs.countP fun z => eqV z v) = ds.countP fun z => deq z x
  | _, _, .nil, _ => rfl
  | d :: ds, w :: ws, .cons h r, q => by
    rw [List.all_cons, Bool.and_eq_true] at q
    rw [List.countP_cons, List.countP_cons, deq_flat h h1 q.1 f1, countP_of h1 f1 r q.2]
theorem Rl.itemsL {α : List Addr} {σ : L2.St} {H : Hp} {Γ : Gam} {μ : Mem} {d : D} {v : V} (r : Rl C α σ H Γ μ) (h : Is C.K C.S α (gk C α μ H) d v) (l : isLst d μ = true) {ds : List D} (hi : TC.items d μ = some ds) :
    ∃ p xs, v = .ref p ∧ SqL C.K H p xs ∧ Iss C.K C.S α (gk C α μ H) ds xs := by
  cases h with
  | lst h q => cases hi; exact ⟨_, _, rfl, SqL.of (gk_ex _ _ h), q⟩
  | mt hk =>
    rename_i n
    have hi : (match μ[n]? with | some (.lst ds) => some ds | _ => none) = some ds := hi
    split at hi
    · rename_i ds' hq
      cases hi
      obtain ⟨zs, h1, h2⟩ := r.cells n _ _ hk hq
      exact ⟨_, zs, rfl, SqL.of h1, h2⟩
    · cases hi
  | _ => cases l
theorem sn_count : SndMt C (rCntV C.K) (fun x ds μ R => isLst x μ = true ∧ dCount x ds μ R) := by
  intro x v ds vs α σ H Γ μ R Q r ix is ⟨hl, w⟩ k
  unfold dCount at w
  split at w
  · rename_i y
    obtain ⟨u, rfl, hu⟩ := iss1 is
    split at w
    · rename_i xs hq
      obtain ⟨⟨f1, f2⟩, w⟩ := w
      obtain ⟨p, zs, rfl, hs, q⟩ := Rl.itemsL r ix hl hq
      rw [← countP_of hu f1 q f2] at w
      exact ⟨p, zs, u, rfl, rfl, hs, hu.flat f1, q.flat f2, k _ _ _ _ _ w r Mv.refl (.int _)⟩
    · exact w.elim
  · exact w.elim
/-- xs.index(y): the first place -/
def dIndex : D → List D → Mem → RD → Prop := fun x ds μ R => isLst x μ = true ∧ match ds with
  | [y] => match items x μ with
    | some xs => (flatD y = true ∧ xs.all flatD = true) ∧ ∃ (j : Nat) (z : D), (xs[j]? = some z ∧ deq z y = true ∧ ∀ (m : Nat) z', m < j → xs[m]? = some z' → deq z' y = false) ∧ R (.int (j : Nat)) μ
    | none => False
  | _ => False
theorem flat_get {xs : List D} (f : xs.all flatD = true) {j : Nat} {z : D} (h : xs[j]? = some z) : flatD z = true := List.all_eq_true.mp f z (List.mem_of_getElem? h)
theorem sn_index : SndMt C (rIndex C.K) dIndex := by
  intro x v ds vs α σ H Γ μ R Q r ix is ⟨hl, w⟩ k
  split at w
  · rename_i y
    obtain ⟨u, rfl, hu⟩ := iss1 is
    split at w
    · rename_i xs hq
      obtain ⟨⟨f1, f2⟩, j, z, ⟨h1, h2, h3⟩, w⟩ := w
      obtain ⟨p, zs, rfl, hs, q⟩ := Rl.itemsL r ix hl hq
      obtain ⟨zv, hz, iz⟩ := q.get h1
      refine ⟨p, zs, u, j, zv, rfl, rfl, hs, hu.flat f1, q.flat f2, hz, ?_, fun m z' hm hz' => ?_, k _ _ _ _ _ w r Mv.refl (.int _)⟩
      · rw [deq_flat iz hu (flat_get f2 h1) f1]; exact h2
      · obtain ⟨d', hd', id'⟩ := q.get' hz'
        rw [deq_flat id' hu (flat_get f2 hd') f1]
        exact h3 m d' hm hd'
    · exact w.elim
  · exact w.elim
def dTIdx : D → List D → Mem → RD → Prop := fun x ds μ R => match ds with
  | [.int k] => ∃ ns : List Int, x = .tup (ns.map D.int) ∧ k ∈ ns ∧ R (.int (ns.idxOf k : Nat)) μ
  | _ => False
theorem sn_tidx : SndMt C (rTIdx C.K) dTIdx := by
  intro x v ds vs α σ H Γ μ R Q r ix is w k
  unfold dTIdx at w
  split at w
  · rename_i n
    obtain ⟨u, rfl, hu⟩ := iss1 is
    cases hu
    obtain ⟨ns, rfl, hn, w⟩ := w
    cases ix with
    | tup h q =>
      have e := q.ints
      subst e
      exact ⟨_, ns, n, rfl, rfl, gk_ex.t h.sq, hn, k _ _ _ _ _ w r Mv.refl (.int _)⟩
  · exact w.elim
/-! ### slices, ranges -/
def cutD (xs : List D) (lo hi : Option Int) : List D := (xs.drop (HT.sIx xs.length 0 lo)).take (HT.sIx xs.length xs.length hi - HT.sIx xs.length 0 lo)
abbrev DO := Gam → Mem → (Option Int → Mem → Prop) → ZD → Prop
def canO (C : Cfg) (W : WX) (w : DO) : TO := fun σ H Q => ∃ α Γ μ R Z, Rl C α σ H Γ μ ∧ w Γ μ R Z ∧ (∀ o α' μ' H', R o μ' → Rl C α' σ H' Γ μ' → Mv C α μ H α' μ' H' → Q o H') ∧ Kz C W α H μ Z
def DOp (X : Cx) (C : Cfg) (W : WX) (e : Option Expr) (w : DO) : Prop := PO X e (canO C W w)
def wNoP : DO := fun _ μ R _ => R none μ
def wPt (wa : DX) : DO := fun Γ μ R Z => wa Γ μ (fun d μ1 => match d with | .int i => R (some i) μ1 | _ => False) Z
theorem do_none : DOp X C W none wNoP := ⟨fun pins s σ H Q I ⟨α, Γ, μ, R, Z, r, w, k, z⟩ => po_none.run pins s σ H Q I (k none α μ H w r Mv.refl)⟩
theorem do_some (h : DE X C W a wa) : DOp X C W (some a) (wPt wa) := ⟨fun pins s σ H Q I ⟨α, Γ, μ, R, Z, r, w, k, z⟩ => (po_some h).run pins s σ H Q I ⟨α, Γ, μ, _, Z, r, w, fun d v α1 μ1 H1 w1 r1 m1 i1 => by
    cases d <;> first | exact w1.elim | skip
    cases i1
    exact ⟨_, rfl, k _ _ _ _ w1 r1 m1⟩, z⟩⟩
def wSl (we : DX) (wl wu : DO) : DX := fun Γ μ R Z => we Γ μ (fun d μ1 => wl Γ μ1 (fun lo μ2 => wu Γ μ2 (fun hi μ3 => match d with
  | .tup xs => R (.tup (cutD xs lo hi)) μ3
  | .lst xs => R (.lst (cutD xs lo hi)) μ3
  | .scr ns => R (.lst (cutD (ns.map .int) lo hi)) μ3
  | _ => False) Z) Z) Z
theorem cutD_is {K : PySem.W.Frag} {S : Sts} {α : List Addr} {G : Hp} {ds : List D} {xs : List V} {lo hi : Option Int} (h : Iss K S α G ds xs) : Iss K S α G (cutD ds lo hi) (cutV xs lo hi) := by
  unfold cutD cutV
  rw [← h.length]
  exact (h.drop _).take _
theorem cutD_whole {ds : List D} {lo hi : Option Int} {n : Nat} (hn : ds.length = n) (h1 : HT.sIx n 0 lo = 0) (h2 : HT.sIx n n hi = n) : cutD ds lo hi = ds := by
  unfold cutD
  rw [hn, h1, h2, Nat.sub_zero, List.drop_zero, ← hn, List.take_length]
theorem de_slice {lo hi : Option Expr} {p2 : Pos} {wl wu : DO} (hK : X.K = C.K) (he : DE X C W e we) (hl : DOp X C W lo wl) (hu : DOp X C W hi wu) : DE X C W (.Subscript e (.Slice lo hi none p2) pos) (wSl we wl wu) :=
  (pe_slice (SlR.or sl_tupF sl_list) he hl hu).imp fun σ H Q ⟨α, Γ, μ, R, Z, r, w, k, z⟩ =>
    ⟨α, Γ, μ, _, Z, r, w, fun d v α1 μ1 H1 w1 r1 m1 i1 => ⟨α1, Γ, μ1, _, Z, r1, w1, fun l α2 μ2 H2 w2 r2 m2 => ⟨α2, Γ, μ2, _, Z, r2, w2, fun u α3 μ3 H3 w3 r3 m3 => by
      rw [hK]
      have m := m1.trans (m2.trans m3)
      have i3 := (m2.trans m3).is i1
      cases i3 with
      | tup h q =>
        refine .inl ⟨_, _, rfl, gk_ex.t h.sq, fun hw => ?_, fun hw p ob hp ho => ?_⟩
        · refine k _ _ _ _ _ w3 r3 m ?_
          rw [cutD_whole q.length hw.1 hw.2]
          exact .tup h q
        · obtain ⟨r4, m4, i4⟩ := r3.tup hp ho (cutD_is q)
          exact k _ _ _ _ _ w3 r4 (m.trans m4) i4
      | lst h q =>
        refine .inr ⟨_, _, rfl, SqL.of (gk_ex _ _ h), fun p hp => ?_⟩
        obtain ⟨r4, m4, i4⟩ := r3.lst hp (cutD_is q)
        exact k _ _ _ _ _ w3 r4 (m.trans m4) i4
      | scr h =>
        refine .inr ⟨_, _, rfl, gk_ex.l h, fun p hp => ?_⟩
        obtain ⟨r4, m4, i4⟩ := r3.lst hp (cutD_is (Iss.of_ints _))
        exact k _ _ _ _ _ w3 r4 (m.trans m4) i4
      | _ => exact w3.elim, z.mv (m1.trans m2)⟩, z.mv m1⟩, z⟩
def wRev (we : DX) : DX := fun Γ μ R Z => we Γ μ (fun d μ1 => match d with | .tup xs => R (.tup xs.reverse) μ1 | _ => False) Z
theorem de_rev {k : Nat} {p1 p2 p3 : Pos} (hK : X.K = C.K) (he : DE X C W e we) : DE X C W (.Subscript e (.Slice none none (some (.UnaryOp .USub (.Constant (.int 1) k p1) p2)) p3) pos) (wRev we) := (pe_revF he).imp fun σ H Q ⟨α, Γ, μ, R, Z, r, w, k, z⟩ =>
  ⟨α, Γ, μ, _, Z, r, w, fun d v α1 μ1 H1 w1 r1 m1 i1 => by
    rw [hK]
    cases i1 with
    | tup h q =>
      refine ⟨_, _, rfl, gk_ex.t h.sq, fun p ob hp ho => ?_⟩
      obtain ⟨r4, m4, i4⟩ := r1.tup hp ho q.reverse
      exact k _ _ _ _ _ w1 r4 (m1.trans m4) i4
    | _ => exact w1.elim, z⟩
theorem rgOk_of {m n : Int} (h1 : rgOk m) (h2 : rgOk n) : RgOk m n := ⟨by have := h1.1; omega, by have := h1.2; omega, by have := h2.1; omega, by have := h2.2; omega, by have := h1.1; have := h2.2; omega⟩
/-- tuple(range(..)), list(range(..)) -/
def rgM (f : List D → Mem → RD → Prop) (ds : List D) (μ1 : Mem) (R : RD) : Prop := match ds with
  | [.int n] => rgOk n ∧ f (rgD 0 n) μ1 R
  | [.int m, .int n] => (rgOk m ∧ rgOk n) ∧ f (rgD m n) μ1 R
  | _ => False
def wRgs (f : List D → Mem → RD → Prop) (was : DA) : DX := fun Γ μ R Z => was Γ μ (fun ds μ1 => rgM f ds μ1 R) Z
def fTupR : List D → Mem → RD → Prop := fun ds μ R => R (.tup ds) μ
def fLstR : List D → Mem → RD → Prop := fun ds μ R => R (.lst ds) μ
def fLstRM : List D → Mem → RD → Prop := fun ds μ R => R (.mt μ.length) (μ ++ [.lst ds])
/-- a range as an argument, by its ends -/
def tRgA (t : TA) : L2.St → Hp → (Int → Int → Hp → Prop) → Prop := fun σ H Q => t σ H fun vs H1 => (∃ n, vs = [.int n] ∧ Q 0 n H1) ∨ ∃ m n, vs = [.int m, .int n] ∧ Q m n H1
theorem rgA1 (h : PRg X e (tRg1 (canE C W wa))) : PRg X e (tRgA (canA C W (wCons wa wNil))) := fun pins s σ H Q I ⟨α, Γ, μ, R, Z, r, w, k, z⟩ => h pins s σ H Q I
  ⟨α, Γ, μ, _, Z, r, w, (fun d v α1 μ1 H1 w1 r1 m1 i1 => (by
    rcases k [d] [v] α1 μ1 H1 w1 r1 m1 (.cons i1 .nil) with ⟨n, e, q⟩ | ⟨m, n, e, q⟩
    · cases e; exact ⟨n, rfl, q⟩
    · cases e)), z⟩
theorem rgA2 (h : PRg X e (tRg2 (canE C W wa) (canE C W wb))) : PRg X e (tRgA (canA C W (wCons wa (wCons wb wNil)))) := fun pins s σ H Q I ⟨α, Γ, μ, R, Z, r, w, k, z⟩ => h pins s σ H Q I
  ⟨α, Γ, μ, _, Z, r, w, fun d v α1 μ1 H1 w1 r1 m1 i1 => ⟨α1, Γ, μ1, _, Z, r1, w1, (fun d' v' α2 μ2 H2 w2 r2 m2 i2 => (by
    rcases k [d, d'] [v, v'] α2 μ2 H2 w2 r2 (m1.trans m2) (.cons (m2.is i1) (.cons i2 .nil)) with ⟨n, e, q⟩ | ⟨m, n, e, q⟩
    · cases e
    · cases e; exact ⟨m, n, rfl, rfl, q⟩)), z.mv m1⟩, z⟩
theorem rg_go {α : List Addr} {ds : List D} {vs : List V} {μ1 : Mem} {G : Hp} {K : PySem.W.Frag} {S : Sts} {R : RD} {f : List D → Mem → RD → Prop} {Q : Int → Int → Prop} (i1 : Iss K S α G ds vs)
    (w1 : rgM f ds μ1 R) (k : ∀ m n, RgOk m n → f (rgD m n) μ1 R → Q m n) :
    (∃ n, vs = [.int n] ∧ Q 0 n) ∨ ∃ m n, vs = [.int m, .int n] ∧ Q m n := by
  unfold rgM at w1
  split at w1
  · rename_i n
    obtain ⟨v, rfl, h⟩ := iss1 i1
    cases h
    exact .inl ⟨n, rfl, k 0 n (rgOk_of ⟨by decide, by decide⟩ w1.1) w1.2⟩
  · rename_i m n
    obtain ⟨v, u, rfl, h, h2⟩ := iss2 i1
    cases h
    cases h2
    exact .inr ⟨m, n, rfl, k m n (rgOk_of w1.1.1 w1.1.2) w1.2⟩
  · exact w1.elim
theorem de_tupRg (hc : X.calm = true) (hg : Gl X "tuple") (hm : X.mg "tuple" = none) (he : PRg X e (tRgA (canA C W was))) (na : starEach [e] X.env = (false, eval e X.env) :: starEach [] X.env := by rfl) : DE X C W (.Call (.Name "tuple" p) [e] [] pos) (wRgs fTupR was) :=
  (pe_tupRgF hc hg hm he na).imp fun σ H Q ⟨α, Γ, μ, R, Z, r, w, k, z⟩ => ⟨α, Γ, μ, _, Z, r, w, fun ds vs α1 μ1 H1 w1 r1 m1 i1 => rg_go (Q := fun m n => RgOk m n ∧ NewT (rgV m n) H1 Q) i1 w1 fun m n ok w2 => ⟨ok, fun p ob hp ho => by
    obtain ⟨r4, m4, i4⟩ := r1.tup hp ho (rgD_is (lo := m) (hi := n))
    exact k _ _ _ _ _ w2 r4 (m1.trans m4) i4⟩, z⟩
theorem de_lstRg (hc : X.calm = true) (hg : Gl X "list") (hm : X.mg "list" = none) (he : PRg X e (tRgA (canA C W was))) (na : starEach [e] X.env = (false, eval e X.env) :: starEach [] X.env := by rfl) : DE X C W (.Call (.Name "list" p) [e] [] pos) (wRgs fLstR was) :=
  (pe_listRg hc hg hm he na).imp fun σ H Q ⟨α, Γ, μ, R, Z, r, w, k, z⟩ => ⟨α, Γ, μ, _, Z, r, w, fun ds vs α1 μ1 H1 w1 r1 m1 i1 => rg_go (Q := fun m n => RgOk m n ∧ ∀ q, H1 q = none → Q (.ref q) (upd H1 q (.lst (rgV m n)))) i1 w1 fun m n ok w2 => ⟨ok, fun p hp => by
    obtain ⟨r4, m4, i4⟩ := r1.lst hp (rgD_is (lo := m) (hi := n))
    exact k _ _ _ _ _ w2 r4 (m1.trans m4) i4⟩, z⟩
theorem de_lstRgM (hc : X.calm = true) (hg : Gl X "list") (hm : X.mg "list" = none) (he : PRg X e (tRgA (canA C W was))) (na : starEach [e] X.env = (false, eval e X.env) :: starEach [] X.env := by rfl) : DE X C W (.Call (.Name "list" p) [e] [] pos) (wRgs fLstRM was) :=
  (pe_listRg hc hg hm he na).imp fun σ H Q ⟨α, Γ, μ, R, Z, r, w, k, z⟩ => ⟨α, Γ, μ, _, Z, r, w, fun ds vs α1 μ1 H1 w1 r1 m1 i1 => rg_go (Q := fun m n => RgOk m n ∧ ∀ q, H1 q = none → Q (.ref q) (upd H1 q (.lst (rgV m n)))) i1 w1 fun m n ok w2 => ⟨ok, fun p hp => by
    obtain ⟨r4, m4, i4⟩ := r1.mlst hp (rgD_is (lo := m) (hi := n))
    exact k _ _ _ _ _ w2 r4 (m1.trans m4) i4⟩, z⟩
end
end TC

set_option Elab.async false
set_option linter.all false
set_option maxRecDepth 100000
set_option maxHeartbeats 2000000
namespace TC
open PySem PySem.Spec PyProof.Rows L2
/-! ### pure data: no mutable thing within -/
mutual
def D.pure : D → Bool
  | .tup ds => pures ds
  | .lst ds => pures ds
  | .dk _ ds => pures ds
  | .dt _ ds => pures ds
  | .mt _ => false
  | _ => true
def pures : List D → Bool
  | [] => true
  | d :: ds => d.pure && pures ds
end
mutual
theorem Is.any {K : PySem.W.Frag} {S : Sts} {α β : List Addr} {G : Hp} : ∀ (d : D) (v : V), Is K S α G d v → d.pure = true → Is K S β G d v
  | .non, v, h, q => by cases h; exact .non
  | .bl b, v, h, q => by cases h; exact .bl b
  | .int i, v, h, q => by cases h; exact .int i
  | .str x, v, h, q => by cases h; exact .str x
  | .tup ds, v, h, q => by
    cases h with
    | tup h r => exact .tup h (Iss.any ds _ r q)
  | .lst ds, v, h, q => by
    cases h with
    | lst h r => exact .lst h (Iss.any ds _ r q)
  | .dk _ ds, v, h, q => by
    cases h with
    | dk h l r => exact .dk h l (Iss.any ds _ r q)
  | .dt _ ds, v, h, q => by
    cases h with
    | dt h l r => exact .dt h l (Iss.any ds _ r q)
  | .scr _, v, h, q => by
    cases h with
    | scr h => exact .scr h
  | .ty _, v, h, q => by cases h; exact .ty _
  | .own _, v, h, q => by cases h; exact .own _
  | .exc _, v, h, q => by
    cases h with
    | exc h => exact .exc h
  | .mt _, v, h, q => by cases q
  | .st, v, h, q => by
    cases h with
    | st h => exact .st h
theorem Iss.any {K : PySem.W.Frag} {S : Sts} {α β : List Addr} {G : Hp} : ∀ (ds : List D) (vs : List V), Iss K S α G ds vs → pures ds = true → Iss K S β G ds vs
  | [], vs, h, q => by cases h; exact .nil
  | d :: ds, vs, h, q => by
    cases h with
    | cons h r =>
      have q : (d.pure && pures ds) = true := q
      rw [Bool.and_eq_true] at q
      exact .cons (Is.any d _ h q.1) (Iss.any ds _ r q.2)
end
/-! ### defs -/
abbrev SpD := List D → (D → Prop) → (Addr → Prop) → Prop
structure CfgOk (C : Cfg) : Prop where
  dom : ∀ a, C.N0 a = true → C.H0 a ≠ none
  sN : ∀ a, inS C.S a → C.N0 a = true
  st : StOk C.S C.H0
/-- the promise in the layer's own words -/
def toSp (K : PySem.W.Frag) (n : Nat) (f : SpD) : Sp := fun vs H Q E => vs.length = n ∧ ∃ (C : Cfg) (ds : List D) (R : D → Prop) (Z : Addr → Prop), C.K = K ∧ C.H0 = H ∧ CfgOk C ∧ Iss K C.S [] (gk C [] [] H) ds vs ∧ f ds R Z ∧
  (∀ d v H', R d → (∀ a o, H a = some o → ¬ inS C.S a → H' a = some o) → StOk C.S H' → Is K C.S [] (gk C [] [] H') d v → Q v H') ∧
  (∀ cl H', Z cl → (∀ a o, H a = some o → ¬ inS C.S a → H' a = some o) → StOk C.S H' → E (.ref cl) none H')
def gam0 (n : Nat) (ds : List D) : Gam := ds.map some ++ List.replicate (n - ds.length) none
theorem hid0 {C : Cfg} {a : Addr} : Hid C [] [] a ↔ C.N0 a = true := by
  constructor
  · rintro (h | ⟨k, h, _⟩)
    · exact h
    · simp at h
  · exact .inl
theorem gk_le {C : Cfg} {α : List Addr} {μ : Mem} {H : Hp} : Ex (gk C α μ H) (gk C [] [] H) := fun a o h => by
  obtain ⟨h1, h2⟩ := gk_at h
  exact gk_of h1 fun z => h2 (.inl (hid0.mp z))
theorem start_rl {C : Cfg} (ok : CfgOk C) {N : List Str} {ds : List D} {vs : List V} (h : Iss C.K C.S [] (gk C [] [] C.H0) ds vs) : Rl C [] (L2.start N vs) C.H0 (gam0 N.length ds) [] where
  keep := fun a o h _ => h
  dom := ok.dom
  sN := ok.sN
  new := fun a h => by cases h
  nd := .nil
  there := fun a h => by cases h
  len := rfl
  cells := fun k a c h _ => by simp at h
  st := ok.st
  slen := by unfold gam0 L2.start; simp [h.length]
  env := fun i d q => by
    unfold gam0 at q
    unfold L2.start
    by_cases hi : i < ds.length
    · rw [List.getElem?_append_left (by simpa using hi), List.getElem?_map] at q
      cases e : ds[i]? with
      | none => rw [e] at q; cases q
      | some d' =>
        rw [e] at q
        cases q
        obtain ⟨v, h1, h2⟩ := h.get e
        refine ⟨v, ?_, h2⟩
        rw [List.getElem?_append_left (by rw [List.length_map, ← h.length]; exact hi), List.getElem?_map, h1]
        rfl
    · rw [List.getElem?_append_right (by simpa using Nat.le_of_not_lt hi)] at q
      have := List.mem_of_getElem? q
      have := (List.mem_replicate.mp this).2
      cases this
section
variable {P : Program} {w : World} {K : PySem.W.Frag} {mg : Str → Option Value} {base : Heap}
/-- a def: its body at the data level -/
theorem fn_ok {x qual : Str} {st : Stmt} {f : Addr} {fd : FuncData} {N ps : List Str} {k n : Nat} {sp : SpD} {wb : DS} (F : Fun K x qual st f fd) (S : FnScope N ps (defScope st)) (hn : ps.length = n)
    (body : ∀ (S : Sts) (N0 : Addr → Bool) (H0 : Hp) (cdv : Value) (A : Around) (outer : List Env) (s : Shared) (H : Hp) (E : XK), Room k (A.deeper (envOfC qual (defScope st) s.heap.objs.size f cdv)) →
      DSs (cxOf (L2.CX P w) P w K mg base N qual (defScope st) f cdv A outer s H E) ⟨K, S, N0, H0⟩ (fun cls d _ H => E cls d H) (defBody st) wb)
    (sound : ∀ ds R Z, ds.length = n → sp ds R Z → wb (gam0 N.length ds) [] ⟨fun _ _ => R .non, fun d _ => d.pure = true ∧ R d, fun _ _ => False, fun _ _ => False, fun cl _ _ => Z cl⟩) :
    FnOk P w K mg base (L2.CX P w) (k + 1) f fd ps (toSp K n sp) := by
  refine F.okX S (fun vs H Q E h => by rw [hn]; exact h.1) fun cdv A outer s H vs Q E hr h => ?_
  obtain ⟨hl, ⟨K', S', N0, H0⟩, ds, R, Z, eK, eH, ok, is, hsp, hq, he⟩ := h
  have eK : K' = K := eK
  have eH : H0 = H := eH
  subst eK eH
  refine ⟨_, body S' N0 H0 cdv A outer s H0 E hr, ?_⟩
  have r := start_rl (N := N) ok is
  refine ⟨[], _, [], _, r, sound ds R Z (by rw [is.length]; exact hl) hsp, ?_, ?_, ?_, ?_, ?_⟩
  · intro α' Γ' μ' σ' H' w' r' m'
    exact hq .non .non H' w' r'.keep r'.st .non
  · intro d v α' Γ' μ' σ' H' w' r' m' i'
    exact hq d v H' w'.2 r'.keep r'.st ((Is.any d v i' w'.1).mono gk_le fun _ _ q => q)
  · intro α' Γ' μ' σ' H' w'
    exact w'.elim
  · intro α' Γ' μ' σ' H' w'
    exact w'.elim
  · intro cl α' Γ' μ' σ' H' w' r' m'
    exact he cl H' w' r'.keep r'.st
end
/-! ### calls of defs -/
theorem Rl.call {C : Cfg} {α : List Addr} {σ : L2.St} {H H' : Hp} {Γ : Gam} {μ : Mem} (r : Rl C α σ H Γ μ) (k : ∀ a o, H a = some o → ¬ inS C.S a → H' a = some o) (st : StOk C.S H') : Rl C α σ H' Γ μ ∧ Mv C α μ H α μ H' := by
  have nS : ∀ a ∈ α, ¬ inS C.S a := fun a ha z => r.dom a (r.sN a z) (r.new a ha)
  have mv : Mv C α μ H α μ H' := ⟨fun _ _ q => q, fun a o q => by
    obtain ⟨h1, h2⟩ := gk_at q
    exact gk_of (k a o h1 fun z => h2 (.inl (r.sN a z))) h2⟩
  refine ⟨⟨fun a o h n => k a o (r.keep a o h n) n, r.dom, r.sN, r.new, r.nd, fun a ha => ?_, r.len, fun j a c h1 h2 => ?_, st, r.slen, fun i d q => ?_⟩, mv⟩
  · cases q : H a with
    | none => exact absurd q (r.there a ha)
    | some o =>
      rw [k a o q (nS a ha)]
      exact fun q => nomatch q
  · exact (r.cells j a c h1 h2).mono mv.ex (fun _ _ q => q) fun o q => k a o q (nS a (List.mem_of_getElem? h1))
  · obtain ⟨v, h1, h2⟩ := r.env i d q
    exact ⟨v, h1, mv.is h2⟩
open Classical in
theorem sub_cfg {C : Cfg} {α : List Addr} {σ : L2.St} {H : Hp} {Γ : Gam} {μ : Mem} (r : Rl C α σ H Γ μ) :
    ∃ C' : Cfg, C'.K = C.K ∧ C'.S = C.S ∧ C'.H0 = H ∧ CfgOk C' ∧ ∀ H', gk C' [] [] H' = gk C α μ H' := by
  refine ⟨⟨C.K, C.S, fun a => decide (Hid C α μ a), H⟩, rfl, rfl, rfl, ⟨fun a h => r.alive (of_decide_eq_true h), fun a h => decide_eq_true (.inl (r.sN a h)), r.st⟩, fun H' => ?_⟩
  funext a
  have e : Hid ⟨C.K, C.S, fun a => decide (Hid C α μ a), H⟩ [] [] a ↔ Hid C α μ a := hid0.trans (by simp)
  unfold gk
  by_cases h : Hid C α μ a
  · rw [if_pos h, if_pos (e.mpr h)]
  · rw [if_neg h, if_neg fun z => h (e.mp z)]
section
variable {X : Cx} {C : Cfg} {W : WX} {e : Expr} {es : List Expr} {was : DA} {pos p : Pos}
def wCall (n : Nat) (f : SpD) (was : DA) : DX := fun Γ μ R Z => was Γ μ (fun ds μ1 => (ds.length = n ∧ pures ds = true) ∧ f ds (fun d => R d μ1) fun cl => Z cl Γ μ1) Z
theorem de_call {f : Addr} {fd : FuncData} {k n : Nat} {ps : List Str} {sp : SpD} {x : Str} (hK : X.K = C.K) (tk : Takes X W) (F : FnOk X.prog X.w X.K X.mg X.base (L2.CX X.prog X.w) k f fd ps (toSp X.K n sp)) (hr : Room k X.A) (hg : Gl X x) (hm : X.mg x = some (.ref f))
    (hk : PySem.W.keepIn X.K (.ref f) = true) (hb : Binds X.K fd ps []) (ha : DAs X C W (e :: es) was)
    (hdb : (x == ("__debug__" : Str)) = false := by decide) (he : starEach (e :: es) X.env = (false, eval e X.env) :: starEach es X.env := by rfl) (hpl : (backTo pos (starEach es X.env)).any (·.1) = false := by rfl) :
    DE X C W (.Call (.Name x p) (e :: es) [] pos) (wCall n sp was) :=
  (pe_callS F hr hg hm hk hb (fun σ => passAt tk σ) ha hdb he hpl).imp fun σ H Q ⟨α, Γ, μ, R, Z, r, w, k, z⟩ => by
    refine ⟨α, Γ, μ, _, Z, r, w, fun ds vs α1 μ1 H1 w1 r1 m1 i1 => ?_, z⟩
    obtain ⟨⟨hds, hp⟩, w1⟩ := w1
    obtain ⟨C', e1, e2, e3, ok, eg⟩ := sub_cfg r1
    refine ⟨by rw [← i1.length]; exact hds, C', ds, fun d => R d μ1, fun cl => Z cl Γ μ1, e1.trans hK.symm, e3, ok, ?_, w1, fun d v H' hd kk st is => ?_, fun cl H' hz kk st => ?_⟩
    · rw [hK, e2, eg]
      exact Iss.any ds vs i1 hp
    · rw [e2] at kk st
      rw [hK, e2, eg] at is
      obtain ⟨r2, m2⟩ := r1.call kk st
      exact k d v α1 μ1 H' hd r2 (m1.trans m2) (is.mono (Ex.refl _) fun k a q => by simp at q)
    · rw [e2] at kk st
      obtain ⟨r2, m2⟩ := r1.call kk st
      exact z cl α1 Γ μ1 σ H' hz r2 (m1.trans m2)
end
end TC

set_option Elab.async false
set_option linter.all false
set_option maxRecDepth 100000
set_option maxHeartbeats 2000000
namespace TC
open PySem PySem.Spec PyProof.Rows L2
mutual
def D.bel (n : Nat) : D → Bool
  | .tup ds => bels n ds
  | .lst ds => bels n ds
  | .dk _ ds => bels n ds
  | .dt _ ds => bels n ds
  | .mt k => decide (k < n)
  | _ => true
def bels (n : Nat) : List D → Bool
  | [] => true
  | d :: ds => d.bel n && bels n ds
end
mutual
theorem Is.bel {K : PySem.W.Frag} {S : Sts} {α : List Addr} {G : Hp} : ∀ (d : D) (v : V), Is K S α G d v → d.bel α.length = true
  | .non, v, h => rfl
  | .bl b, v, h => rfl
  | .int i, v, h => rfl
  | .str x, v, h => rfl
  | .tup ds, v, h => by
    cases h with
    | tup h r => exact Iss.bel ds _ r
  | .lst ds, v, h => by
    cases h with
    | lst h r => exact Iss.bel ds _ r
  | .dk _ ds, v, h => by
    cases h with
    | dk h l r => exact Iss.bel ds _ r
  | .dt _ ds, v, h => by
    cases h with
    | dt h l r => exact Iss.bel ds _ r
  | .scr _, v, h => rfl
  | .ty _, v, h => rfl
  | .own _, v, h => rfl
  | .exc _, v, h => rfl
  | .mt k, v, h => by
    cases h with
    | mt h => exact decide_eq_true (List.getElem?_eq_some_iff.mp h).1
  | .st, v, h => rfl
theorem Iss.bel {K : PySem.W.Frag} {S : Sts} {α : List Addr} {G : Hp} : ∀ (ds : List D) (vs : List V), Iss K S α G ds vs → bels α.length ds = true
  | [], vs, h => rfl
  | d :: ds, vs, h => by
    cases h with
    | cons h r =>
      show (d.bel α.length && bels α.length ds) = true
      rw [Is.bel d _ h, Iss.bel ds _ r]
      rfl
end
mutual
theorem Is.cut {K : PySem.W.Frag} {S : Sts} {α β : List Addr} {G : Hp} : ∀ (d : D) (v : V), Is K S (α ++ β) G d v → d.bel α.length = true → Is K S α G d v
  | .non, v, h, q => by cases h; exact .non
  | .bl b, v, h, q => by cases h; exact .bl b
  | .int i, v, h, q => by cases h; exact .int i
  | .str x, v, h, q => by cases h; exact .str x
  | .tup ds, v, h, q => by
    cases h with
    | tup h r => exact .tup h (Iss.cut ds _ r q)
  | .lst ds, v, h, q => by
    cases h with
    | lst h r => exact .lst h (Iss.cut ds _ r q)
  | .dk _ ds, v, h, q => by
    cases h with
    | dk h l r => exact .dk h l (Iss.cut ds _ r q)
  | .dt _ ds, v, h, q => by
    cases h with
    | dt h l r => exact .dt h l (Iss.cut ds _ r q)
  | .scr _, v, h, q => by
    cases h with
    | scr h => exact .scr h
  | .ty _, v, h, q => by cases h; exact .ty _
  | .own _, v, h, q => by cases h; exact .own _
  | .exc _, v, h, q => by
    cases h with
    | exc h => exact .exc h
  | .mt k, v, h, q => by
    cases h with
    | mt h =>
      have q : decide (k < α.length) = true := q
      rw [List.getElem?_append_left (of_decide_eq_true q)] at h
      exact .mt h
  | .st, v, h, q => by
    cases h with
    | st h => exact .st h
theorem Iss.cut {K : PySem.W.Frag} {S : Sts} {α β : List Addr} {G : Hp} : ∀ (ds : List D) (vs : List V), Iss K S (α ++ β) G ds vs → bels α.length ds = true → Iss K S α G ds vs
  | [], vs, h, q => by cases h; exact .nil
  | d :: ds, vs, h, q => by
    cases h with
    | cons h r =>
      have q : (d.bel α.length && bels α.length ds) = true := q
      rw [Bool.and_eq_true] at q
      exact .cons (Is.cut d _ h q.1) (Iss.cut ds _ r q.2)
end
def wipeG (Γ : Gam) : List Nat → Gam
  | [] => Γ
  | v :: vs => (wipeG Γ vs).set v none
section
variable {C : Cfg} {α : List Addr} {σ : L2.St} {H H' : Hp} {Γ : Gam} {μ : Mem}
theorem Rl.wipe (r : Rl C α σ H Γ μ) : ∀ vs : List Nat, Rl C α (L2.wipe σ vs) H (wipeG Γ vs) μ
  | [] => r
  | v :: vs => (Rl.wipe r vs).setn
theorem Rl.senv {σ' : L2.St} {Γ' : Gam} (r : Rl C α σ H Γ μ) (hl : Γ'.length = σ'.length) (he : ∀ (i : Nat) d, Γ'[i]? = some (some d) → ∃ v, σ'[i]? = some (some v) ∧ Is C.K C.S α (gk C α μ H) d v) : Rl C α σ' H Γ' μ where
  keep := r.keep
  dom := r.dom
  sN := r.sN
  new := r.new
  nd := r.nd
  there := r.there
  len := r.len
  cells := r.cells
  st := r.st
  slen := hl
  env := he
/-- the last mutable thing is left: it is at rest -/
theorem Rl.drop {p : Addr} {acc : List D} {σ' : L2.St} {Γ' : Gam} (r : Rl C α σ H Γ μ) (hp : H p = none) (r' : Rl C (α ++ [p]) σ' H' Γ' (μ ++ [Cell.lst acc])) (m : Mv C α μ H (α ++ [p]) (μ ++ [Cell.lst acc]) H') (hb : pures acc = true) :
    Rl C α σ H' Γ μ ∧ Mv C α μ H α μ H' ∧ Is C.K C.S α (gk C α μ H') (.lst acc) (.ref p) := by
  have le : Ex (gk C (α ++ [p]) (μ ++ [Cell.lst acc]) H') (gk C α μ H') := fun a o q => by
    obtain ⟨h1, h2⟩ := gk_at q
    refine gk_of h1 fun z => h2 ?_
    exact (Hid.grow r.len (show Cell.lst acc ≠ .dead from fun q => nomatch q)).mpr (.inl z)
  have mv : Mv C α μ H α μ H' := ⟨fun _ _ q => q, m.ex.trans le⟩
  refine ⟨⟨r'.keep, r.dom, r.sN, r.new, r.nd, fun a ha => r'.there a (List.mem_append_left _ ha), r.len, fun k a c h1 h2 => ?_, r'.st, r.slen, fun i d q => ?_⟩, mv, ?_⟩
  · have hk := (List.getElem?_eq_some_iff.mp h1).1
    have hk' := (List.getElem?_eq_some_iff.mp h2).1
    have x' := r'.cells k a c (by rw [List.getElem?_append_left hk]; exact h1) (by rw [List.getElem?_append_left hk']; exact h2)
    have x := r.cells k a c h1 h2
    cases c with
    | dead => trivial
    | lst ds =>
      obtain ⟨_, _, b⟩ := x
      obtain ⟨xs, e1, e2⟩ := x'
      exact ⟨xs, e1, (Iss.cut ds _ e2 (Iss.bel ds _ b)).mono le fun _ _ q => q⟩
    | dk ks ds =>
      obtain ⟨_, _, _, b⟩ := x
      obtain ⟨xs, e1, e3, e2⟩ := x'
      exact ⟨xs, e1, e3, (Iss.cut ds _ e2 (Iss.bel ds _ b)).mono le fun _ _ q => q⟩
    | dt ks ds =>
      obtain ⟨_, _, _, b⟩ := x
      obtain ⟨xs, e1, e3, e2⟩ := x'
      exact ⟨xs, e1, e3, (Iss.cut ds _ e2 (Iss.bel ds _ b)).mono le fun _ _ q => q⟩
  · obtain ⟨v, h1, h2⟩ := r.env i d q
    exact ⟨v, h1, (Is.cut d v (m.is h2) (Is.bel d v h2)).mono le fun _ _ q => q⟩
  · obtain ⟨xs, e1, e2⟩ := r'.cells α.length p (.lst acc) (by simp) (by rw [r.len]; simp)
    refine .lst (gk_of e1 (r.free hp)) ?_
    exact (Iss.any acc xs e2 hb).mono le fun k a q => q
theorem pures_append : ∀ {ds es : List D}, pures ds = true → pures es = true → pures (ds ++ es) = true
  | [], es, _, h => h
  | d :: ds, es, h, q => by
    have h : (d.pure && pures ds) = true := h
    rw [Bool.and_eq_true] at h
    show (d.pure && pures (ds ++ es)) = true
    rw [h.1, pures_append h.2 q]
    rfl
end
abbrev W0 : WX := fun _ _ _ _ => False
def Z0 : ZD := fun _ _ _ => False
def wLcL (tf : D → Gam → Option Gam) (wt : DT) (we : DX) : List D → List D → Gam → Mem → (List D → Mem → Prop) → Prop
  | [], acc, _, μ, R => R acc μ
  | x :: xs, acc, Γw, μ, R => match tf x Γw with
    | some Γ1 => wt Γ1 (μ ++ [Cell.lst acc]) (fun b μ1 => μ1 = μ ++ [Cell.lst acc] ∧ if b = true then
        we Γ1 (μ ++ [Cell.lst acc]) (fun d μ2 => μ2 = μ ++ [Cell.lst acc] ∧ d.pure = true ∧ wLcL tf wt we xs (acc ++ [d]) Γw μ R) Z0 else wLcL tf wt we xs acc Γw μ R) Z0
    | none => False
def wLc (tf : D → Gam → Option Gam) (ws : DA) (wt : DT) (we : DX) (vs : List Nat) : DX := fun Γ μ R Z => ws Γ μ (fun ds μ1 => ds.length ≤ big ∧ wLcL tf wt we ds [] (wipeG Γ vs) μ1 fun acc μ2 => R (.lst acc) μ2) Z
def wLcM (tf : D → Gam → Option Gam) (ws : DA) (wt : DT) (we : DX) (vs : List Nat) : DX := fun Γ μ R Z => ws Γ μ (fun ds μ1 => ds.length ≤ big ∧ wLcL tf wt we ds [] (wipeG Γ vs) μ1 fun acc μ2 => R (.mt μ2.length) (μ2 ++ [Cell.lst acc])) Z
section
variable {X : Cx} {C : Cfg} {W : WX} {elt tg iter : Expr} {ifs : List Expr} {scope : Scope} {own : List (Str × Nat)} {pos : Pos} {g : TG} {tf : D → Gam → Option Gam} {ws : DA} {wt : DT} {we : DX} {vs : List Nat}
/-- a name of the comprehension's own -/
structure OwnG (g : TG) (tf : D → Gam → Option Gam) (vs : List Nat) : Prop where
  go : ∀ (C : Cfg) α σ H Γ μ d v (Q : L2.St → Hp → Prop) Γ', Rl C α (L2.wipe σ vs) H (wipeG Γ vs) μ → Is C.K C.S α (gk C α μ H) d v → tf d (wipeG Γ vs) = some Γ' → (∀ σ', Rl C α σ' H Γ' μ → L2.wipe σ' vs = L2.wipe σ vs → Q σ' H) → g v (L2.wipe σ vs) H Q
theorem lc_main {σ : L2.St} {H : Hp} {Q : VK} (og : OwnG g tf vs) (fin : List D → Mem → RD → Prop)
    (hf : ∀ {α : List Addr} {H H' : Hp} {Γ : Gam} {μ : Mem} {p : Addr} {acc : List D} {σ' : L2.St} {Γ' : Gam} {R : RD}, Rl C α σ H Γ μ → H p = none → Rl C (α ++ [p]) σ' H' Γ' (μ ++ [Cell.lst acc]) → Mv C α μ H (α ++ [p]) (μ ++ [Cell.lst acc]) H' → pures acc = true → fin acc μ R →
      ∃ d α' μ', R d μ' ∧ Rl C α' σ H' Γ μ' ∧ Mv C α μ H α' μ' H' ∧ Is C.K C.S α' (gk C α' μ' H') d (.ref p))
    (h : canE C W (fun Γ μ R Z => ws Γ μ (fun ds μ1 => ds.length ≤ big ∧ wLcL tf wt we ds [] (wipeG Γ vs) μ1 fun acc μ2 => fin acc μ2 R) Z) σ H Q) :
    tLc (canI C W ws) g (canT C W0 wt) (canE C W0 we) vs σ H Q := by
  obtain ⟨α, Γ, μ, R, Z, r, w, k, z⟩ := h
  refine ⟨α, Γ, μ, _, Z, r, w, fun ds xs J G α1 μ1 H1 w1 r1 m1 i1 k1 g1 Dl hD => ?_, z⟩
  obtain ⟨hz, w1⟩ := w1
  have hlen := i1.length
  refine lc_wk k1 (fun i H' => ∃ acc : List D, Rl C (α1 ++ [Dl]) (L2.wipe σ vs) H' (wipeG Γ vs) (μ1 ++ [Cell.lst acc]) ∧ Mv C α1 μ1 H1 (α1 ++ [Dl]) (μ1 ++ [Cell.lst acc]) H' ∧ pures acc = true ∧ acc.length ≤ i ∧ i ≤ ds.length ∧
    wLcL tf wt we (ds.drop i) acc (wipeG Γ vs) μ1 fun acc μ2 => fin acc μ2 R) ?_ ?_ ?_ ?_
  · obtain ⟨r2, m2, _⟩ := Rl.mlst (r1.wipe vs) hD (ds := []) (xs := []) .nil
    exact ⟨[], r2, m2, rfl, Nat.zero_le _, Nat.zero_le _, w1⟩
  · rintro i H' ⟨acc, _, m, _⟩
    exact g1 _ _ _ m
  · rintro i x H' hx ⟨acc, r2, m2, hp, hl, hi, w2⟩
    obtain ⟨d, hd, id⟩ := i1.get' hx
    obtain ⟨hlt, he⟩ := List.getElem?_eq_some_iff.mp hd
    rw [List.drop_eq_getElem_cons hlt, he] at w2
    have w2 : (match tf d (wipeG Γ vs) with
      | some Γ1 => wt Γ1 (μ1 ++ [Cell.lst acc]) (fun b μ' => μ' = μ1 ++ [Cell.lst acc] ∧ if b = true then
        we Γ1 (μ1 ++ [Cell.lst acc]) (fun d μ2 => μ2 = μ1 ++ [Cell.lst acc] ∧ d.pure = true ∧ wLcL tf wt we (ds.drop (i + 1)) (acc ++ [d]) (wipeG Γ vs) μ1 fun acc μ2 => fin acc μ2 R) Z0 else wLcL tf wt we (ds.drop (i + 1)) acc (wipeG Γ vs) μ1 fun acc μ2 => fin acc μ2 R) Z0
      | none => False) := w2
    split at w2
    · rename_i Γ1 ht
      refine og.go C _ σ H' Γ _ d x _ Γ1 r2 (m2.is id) ht fun σ' r3 hw => ⟨hw, ?_⟩
      refine ⟨_, Γ1, _, _, Z0, r3, w2, fun b α4 μ4 H4 w4 r4 m4 => ?_, fun cl α' Γ' μ' σ' H' z _ _ => z⟩
      obtain ⟨em, w4⟩ := w4
      subst em
      have ea : α4 = α1 ++ [Dl] := by
        refine List.ext_getElem? fun n => ?_
        by_cases hn : n < (α1 ++ [Dl]).length
        · rw [List.getElem?_eq_getElem hn]
          exact m4.pre n _ (List.getElem?_eq_getElem hn)
        · rw [List.getElem?_eq_none (Nat.le_of_not_lt hn), List.getElem?_eq_none]
          have l1 := r4.len
          have l2 := r2.len
          omega
      subst ea
      have back : ∀ {Hx : Hp} {acc' : List D}, Rl C (α1 ++ [Dl]) σ' Hx Γ1 (μ1 ++ [.lst acc']) → Mv C (α1 ++ [Dl]) (μ1 ++ [Cell.lst acc]) H' (α1 ++ [Dl]) (μ1 ++ [.lst acc']) Hx → Rl C (α1 ++ [Dl]) (L2.wipe σ vs) Hx (wipeG Γ vs) (μ1 ++ [.lst acc']) := fun {Hx acc'} rx mx =>
        rx.senv r2.slen fun j e q => by
          obtain ⟨v, h1, h2⟩ := r2.env j e q
          exact ⟨v, h1, mx.is h2⟩
      cases b with
      | true =>
        refine ⟨_, Γ1, _, _, Z0, r4, w4, fun d' v' α5 μ5 H5 w5 r5 m5 i5 => ?_, fun cl α' Γ' μ' σ' H' z _ _ => z⟩
        obtain ⟨em, hpd, w5⟩ := w5
        subst em
        have ea : α5 = α1 ++ [Dl] := by
          refine List.ext_getElem? fun n => ?_
          by_cases hn : n < (α1 ++ [Dl]).length
          · rw [List.getElem?_eq_getElem hn]
            exact m5.pre n _ (List.getElem?_eq_getElem hn)
          · rw [List.getElem?_eq_none (Nat.le_of_not_lt hn), List.getElem?_eq_none]
            have l1 := r5.len
            have l2 := r2.len
            omega
        subst ea
        have hk : (α1 ++ [Dl])[α1.length]? = some Dl := by simp
        have hk2 : (μ1 ++ [Cell.lst acc])[α1.length]? = some (.lst acc) := by rw [r1.len]; simp
        obtain ⟨ys, h1, h2⟩ := r5.cells α1.length Dl _ hk hk2
        have hal := h2.length
        refine ⟨ys, h1, by rw [← hal]; exact big_lt (by omega), ?_⟩
        obtain ⟨r6, m6⟩ := r5.write (o := .lst (ys ++ [v'])) (c := .lst (acc ++ [d'])) hk (by rw [hk2]; exact fun q => nomatch q) ⟨_, upd_same, h2.append (.cons i5 .nil)⟩ (fun q => nomatch q)
        have em : (μ1 ++ [Cell.lst acc]).set α1.length (.lst (acc ++ [d'])) = μ1 ++ [Cell.lst (acc ++ [d'])] := by
          rw [r1.len]
          simp
        rw [em] at r6 m6
        have mm := (m4.trans m5).trans m6
        refine ⟨acc ++ [d'], back r6 mm, m2.trans mm, pures_append hp (by show (d'.pure && pures []) = true; rw [hpd]; rfl), by rw [List.length_append, List.length_singleton]; omega, hlt, w5⟩
      | false => exact ⟨acc, back r4 m4, m2.trans m4, hp, by omega, hlt, w4⟩
    · exact w2.elim
  · rintro H' ⟨acc, r2, m2, hp, hl, hi, w2⟩
    rw [← hlen, List.drop_length] at w2
    obtain ⟨d, α', μ', hr, rr, mm, ii⟩ := hf (Γ' := wipeG Γ vs) r1 hD r2 m2 hp w2
    exact k d _ α' μ' H' hr rr (m1.trans mm) ii
theorem fin_l {σ : L2.St} {α : List Addr} {H H' : Hp} {Γ : Gam} {μ : Mem} {p : Addr} {acc : List D} {σ' : L2.St} {Γ' : Gam} {R : RD} (r : Rl C α σ H Γ μ) (hp : H p = none) (r' : Rl C (α ++ [p]) σ' H' Γ' (μ ++ [Cell.lst acc])) (m : Mv C α μ H (α ++ [p]) (μ ++ [Cell.lst acc]) H') (hb : pures acc = true)
    (w : R (.lst acc) μ) : ∃ d α' μ', R d μ' ∧ Rl C α' σ H' Γ μ' ∧ Mv C α μ H α' μ' H' ∧ Is C.K C.S α' (gk C α' μ' H') d (.ref p) := by
  obtain ⟨r2, m2, i2⟩ := Rl.drop r hp r' m hb
  exact ⟨_, α, μ, w, r2, m2, i2⟩
theorem fin_m {σ : L2.St} {α : List Addr} {H H' : Hp} {Γ : Gam} {μ : Mem} {p : Addr} {acc : List D} {σ' : L2.St} {Γ' : Gam} {R : RD} (r : Rl C α σ H Γ μ) (hp : H p = none) (r' : Rl C (α ++ [p]) σ' H' Γ' (μ ++ [Cell.lst acc])) (m : Mv C α μ H (α ++ [p]) (μ ++ [Cell.lst acc]) H') (hb : pures acc = true)
    (w : R (.mt μ.length) (μ ++ [Cell.lst acc])) : ∃ d α' μ', R d μ' ∧ Rl C α' σ H' Γ μ' ∧ Mv C α μ H α' μ' H' ∧ Is C.K C.S α' (gk C α' μ' H') d (.ref p) :=
  ⟨_, α ++ [p], μ ++ [Cell.lst acc], w, r'.senv r.slen (fun j e q => (by
            obtain ⟨v, h1, h2⟩ := r.env j e q
            exact ⟨v, h1, m.is h2⟩)), m, .mt (by rw [← r.len]; simp)⟩
theorem de_lc (hc : X.calm = true) (hN : X.N.Nodup) (hi : DI X C W tg iter ws) (ok : BlkOk X.N X.env.scope scope own) (og : OwnG g tf (own.map (·.2)))
    (hg : ∀ (s : Shared) (H : Hp) (A : Addr) (cl : List (Str × Addr)) (fp : List Addr), PG (X.blk s H scope (compEnvC scope cl A X.env) fp) tg g)
    (ht : ∀ (s : Shared) (H : Hp) (A : Addr) (cl : List (Str × Addr)) (fp : List Addr), PTs (X.blk s H scope (compEnvC scope cl A X.env) fp) ifs (canT C W0 wt))
    (he : ∀ (s : Shared) (H : Hp) (A : Addr) (cl : List (Str × Addr)) (fp : List Addr), DE (X.blk s H scope (compEnvC scope cl A X.env) fp) C W0 elt we) (hs : ∀ x, foldedSetIterable iter X.env x = pure x := by intro _; rfl) :
    DE X C W (.ListComp elt [⟨tg, iter, ifs, 0⟩] scope pos) (wLc tf ws wt we (own.map (·.2))) :=
  (pe_lc hc hN hi ok hg ht he hs).imp fun σ H Q h => lc_main og (fun acc μ R => R (.lst acc) μ) (fun r hp r' m hb w => fin_l r hp r' m hb w) h
theorem de_lcM (hc : X.calm = true) (hN : X.N.Nodup) (hi : DI X C W tg iter ws) (ok : BlkOk X.N X.env.scope scope own) (og : OwnG g tf (own.map (·.2)))
    (hg : ∀ (s : Shared) (H : Hp) (A : Addr) (cl : List (Str × Addr)) (fp : List Addr), PG (X.blk s H scope (compEnvC scope cl A X.env) fp) tg g)
    (ht : ∀ (s : Shared) (H : Hp) (A : Addr) (cl : List (Str × Addr)) (fp : List Addr), PTs (X.blk s H scope (compEnvC scope cl A X.env) fp) ifs (canT C W0 wt))
    (he : ∀ (s : Shared) (H : Hp) (A : Addr) (cl : List (Str × Addr)) (fp : List Addr), DE (X.blk s H scope (compEnvC scope cl A X.env) fp) C W0 elt we) (hs : ∀ x, foldedSetIterable iter X.env x = pure x := by intro _; rfl) :
    DE X C W (.ListComp elt [⟨tg, iter, ifs, 0⟩] scope pos) (wLcM tf ws wt we (own.map (·.2))) :=
  (pe_lc hc hN hi ok hg ht he hs).imp fun σ H Q h => lc_main og (fun acc μ R => R (D.mt (List.length μ)) (μ ++ [Cell.lst acc])) (fun r hp r' m hb w => fin_m r hp r' m hb w) h
def wYes : DT := fun _ μ R _ => R true μ
theorem dts_nil : PTs X [] (canT C W wYes) := ⟨fun pins s σ H Q I ⟨α, Γ, μ, R, Z, r, w, k, _⟩ => pts_nil.run pins s σ H Q I (k true α μ H w r Mv.refl)⟩
theorem dts_one {c : Expr} (h : DTs X C W c wt) : PTs X [c] (canT C W wt) := pts_one h
theorem own_name {j : Nat} : OwnG (gName j) (fun d Γ => some (Γ.set j (some d))) [j] := ⟨fun C α σ H Γ μ d v Q Γ' r i e k => by
  cases e
  refine k _ (r.setv i) ?_
  show List.set (List.set (List.set σ j none) j (some v)) j none = List.set σ j none
  rw [List.set_set, List.set_set]⟩
/-- y = [..], a statement of its own -/
theorem ds_lc {st : Stmt} {i : Nat} (h : PS X st (tAsg (tLc (canI C W ws) g (canT C W0 wt) (canE C W0 we) vs) (gName i))) (og : OwnG g tf vs) : DSt X C W st (wAsg i (wLc tf ws wt we vs)) :=
  ds_asg (PS.imp h fun En σ H h => lc_main og (fun acc μ R => R (.lst acc) μ) (fun r hp r' m hb w => fin_l r hp r' m hb w) h)
theorem ds_lcM {st : Stmt} {i : Nat} (h : PS X st (tAsg (tLc (canI C W ws) g (canT C W0 wt) (canE C W0 we) vs) (gName i))) (og : OwnG g tf vs) : DSt X C W st (wAsg i (wLcM tf ws wt we vs)) :=
  ds_asg (PS.imp h fun En σ H h => lc_main og (fun acc μ R => R (D.mt (List.length μ)) (μ ++ [Cell.lst acc])) (fun r hp r' m hb w => fin_m r hp r' m hb w) h)
end
end TC

set_option Elab.async false
set_option linter.all false
set_option maxRecDepth 100000
set_option maxHeartbeats 2000000
namespace TC
open PySem PySem.Spec PyProof.Rows L2
section
variable {X : Cx} {C : Cfg} {W : WX} {a b e : Expr} {wa wb we : DX} {pos : Pos}
def isNon (d : D) : Bool := match d with
  | .non => true
  | _ => false
def wIsN (neg : Bool) (wa : DX) : DX := fun Γ μ R Z => wa Γ μ (fun d μ1 => R (.bl (if neg then !isNon d else isNon d)) μ1) Z
theorem isNon_of {K : PySem.W.Frag} {S : Sts} {α : List Addr} {G : Hp} {x : D} {v : V} (h : Is K S α G x v) : decide (v = V.non) = isNon x := by
  cases h <;> rfl
theorem de_isN {k : Nat} {p : Pos} (ha : DE X C W a wa) : DE X C W (.Compare a [.Is] [.Constant .none k p] pos) (wIsN false wa) := (pe_cmp (pc_isN ha) rfl).imp fun σ H Q ⟨α, Γ, μ, R, Z, r, w, k, z⟩ =>
  ⟨α, Γ, μ, _, Z, r, w, fun d v α1 μ1 H1 w1 r1 m1 i1 => k _ _ _ _ _ w1 r1 m1 (by
    have e := isNon_of i1
    rw [e]
    exact .bl _), z⟩
theorem de_notN {k : Nat} {p : Pos} (ha : DE X C W a wa) : DE X C W (.Compare a [.IsNot] [.Constant .none k p] pos) (wIsN true wa) := (pe_cmp (pc_notN ha) rfl).imp fun σ H Q ⟨α, Γ, μ, R, Z, r, w, k, z⟩ =>
  ⟨α, Γ, μ, _, Z, r, w, fun d v α1 μ1 H1 w1 r1 m1 i1 => k _ _ _ _ _ w1 r1 m1 (by
    have e := isNon_of i1
    rw [e]
    exact .bl _), z⟩
/-- xs or y, xs a list or tuple at rest -/
def wOrL (wa wb : DX) : DX := fun Γ μ R Z => wa Γ μ (fun d μ1 => match d with
  | .lst ds => if ds.isEmpty = true then wb Γ μ1 R Z else R (.lst ds) μ1
  | .tup ds => if ds.isEmpty = true then wb Γ μ1 R Z else R (.tup ds) μ1
  | _ => False) Z
theorem iss_empty {K : PySem.W.Frag} {S : Sts} {α : List Addr} {G : Hp} {ds : List D} {vs : List V} (h : Iss K S α G ds vs) : vs.isEmpty = ds.isEmpty := by
  cases h <;> rfl
theorem de_orL {rest : List Expr} (hK : X.K = C.K) (ha : DE X C W a wa) (hb : DE X C W (.BoolOp .Or (b :: rest) pos) wb) : DE X C W (.BoolOp .Or (a :: b :: rest) pos) (wOrL wa wb) := (pe_orT ha hb).imp fun σ H Q ⟨α, Γ, μ, R, Z, r, w, k, z⟩ =>
  ⟨α, Γ, μ, _, Z, r, w, fun d v α1 μ1 H1 w1 r1 m1 i1 => by
    rw [hK]
    have two : ∀ {ds : List D} {d : D} {p : Addr} (c : Bool), (TruV C.K (.ref p) H1 (!ds.isEmpty)) → Is C.K C.S α1 (gk C α1 μ1 H1) d (.ref p) → (if ds.isEmpty = true then wb Γ μ1 R Z else R d μ1) →
        ∃ k, TruV C.K (.ref p) H1 k ∧ if k = true then Q (.ref p) H1 else canE C W wb σ H1 Q := fun {ds d p} c ht id w => by
      refine ⟨_, ht, ?_⟩
      cases he : ds.isEmpty with
      | true =>
        rw [he, if_pos rfl] at w
        exact ⟨α1, Γ, μ1, R, Z, r1, w, fun d v α2 μ2 H2 w2 r2 m2 i2 => k d v α2 μ2 H2 w2 r2 (m1.trans m2) i2, z.mv m1⟩
      | false =>
        rw [he, if_neg Bool.false_ne_true] at w
        exact k _ _ _ _ _ w r1 m1 id
    cases i1 with
    | lst h q => exact two true (.inl ⟨_, SqL.of (gk_ex _ _ h), by rw [iss_empty q]⟩) (.lst h q) w1
    | tup h q => exact two true (.inr (.inl ⟨_, gk_ex.t h.sq, by rw [iss_empty q]⟩)) (.tup h q) w1
    | _ => exact w1.elim, z⟩
end
def dCountL : D → List D → Mem → RD → Prop := fun x ds μ R => isLst x μ = true ∧ dCount x ds μ R
def dAllL : List D → Mem → RD → Prop := fun ds μ R => dAll ds μ R ∧ ∀ ys, ds ≠ [.tup ys]
/-! comparisons as tests -/
section
variable {X : Cx} {C : Cfg} {W : WX} {a b e : Expr} {wa wb we : DX} {pos : Pos}
theorem dt_cmp {op : CmpOp} {r : R2} {f : D → D → Mem → RD → Prop} (ho : OpR X (compareOp op) r) (sn : SndOp C r f) (ha : DE X C W a wa) (hb : DE X C W b wb) (hm : behindInMarks op b = false) : DTs X C W (.Compare a [op] [b] pos) (wTest (wBin f wa wb)) :=
  PT.imp (pt_cmpR ho ha hb hm) fun σ H Q ⟨α, Γ, μ, R, Z, r, w, k, z⟩ => by
    refine two (W := W) sn ⟨α, Γ, μ, _, Z, r, w, fun d v α1 μ1 H1 w1 r1 m1 i1 => ?_, z⟩
    cases d <;> first | exact w1.elim | skip
    cases i1
    exact ⟨_, rfl, k _ _ _ _ w1 r1 m1⟩
theorem dt_eq (hK : X.K = C.K) (hu : X.A.units + 64 < cLine) (ha : DE X C W a wa) (hb : DE X C W b wb) : DTs X C W (.Compare a [.Eq] [b] pos) (wTest (wBin dEq wa wb)) :=
  dt_cmp (by have h := op_eqD (X := X) hu; rw [hK] at h; exact h) sn_eq ha hb (nomark _)
theorem dt_ne (hK : X.K = C.K) (hu : X.A.units + 64 < cLine) (ha : DE X C W a wa) (hb : DE X C W b wb) : DTs X C W (.Compare a [.NotEq] [b] pos) (wTest (wBin dNe wa wb)) :=
  dt_cmp (by have h := op_neD (X := X) hu; rw [hK] at h; exact h) sn_ne ha hb (nomark _)
theorem dt_in (hK : X.K = C.K) (ha : DE X C W a wa) (hb : DE X C W b wb) (hm : behindInMarks .In b = false) : DTs X C W (.Compare a [.In] [b] pos) (wTest (wBin (dIn false) wa wb)) :=
  dt_cmp (by have h := op_in_seq (X := X); rw [hK] at h; exact h) sn_in ha hb hm
theorem dt_notin (hK : X.K = C.K) (ha : DE X C W a wa) (hb : DE X C W b wb) (hm : behindInMarks .NotIn b = false) : DTs X C W (.Compare a [.NotIn] [b] pos) (wTest (wBin (dIn true) wa wb)) :=
  dt_cmp (by have h := op_notIn_seq (X := X); rw [hK] at h; exact h) sn_in ha hb hm
theorem dt_lt (ha : DE X C W a wa) (hb : DE X C W b wb) : DTs X C W (.Compare a [.Lt] [b] pos) (wTest (wBin dLt wa wb)) := dt_cmp (opr_I0 op_lt) (sn_I fun _ _ _ _ => .bl _) ha hb (nomark _)
theorem dt_le (ha : DE X C W a wa) (hb : DE X C W b wb) : DTs X C W (.Compare a [.LtE] [b] pos) (wTest (wBin dLe wa wb)) := dt_cmp (opr_I0 op_le) (sn_I fun _ _ _ _ => .bl _) ha hb (nomark _)
theorem dt_gt (ha : DE X C W a wa) (hb : DE X C W b wb) : DTs X C W (.Compare a [.Gt] [b] pos) (wTest (wBin dGt wa wb)) := dt_cmp (opr_I0 op_gt) (sn_I fun _ _ _ _ => .bl _) ha hb (nomark _)
theorem dt_ge (ha : DE X C W a wa) (hb : DE X C W b wb) : DTs X C W (.Compare a [.GtE] [b] pos) (wTest (wBin dGe wa wb)) := dt_cmp (opr_I0 op_ge) (sn_I fun _ _ _ _ => .bl _) ha hb (nomark _)
theorem dt_isN {k : Nat} {p : Pos} (ha : DE X C W a wa) : DTs X C W (.Compare a [.Is] [.Constant .none k p] pos) (wTest (wIsN false wa)) := PT.imp (pt_cmpR op_isN ha pe_non (nomark _)) fun σ H Q ⟨α, Γ, μ, R, Z, r, w, k, z⟩ =>
  ⟨α, Γ, μ, _, Z, r, w, fun d v α1 μ1 H1 w1 r1 m1 i1 => ⟨rfl, _, rfl, by
    have e := isNon_of i1
    rw [e]
    exact k _ _ _ _ w1 r1 m1⟩, z⟩
theorem dt_notN {k : Nat} {p : Pos} (ha : DE X C W a wa) : DTs X C W (.Compare a [.IsNot] [.Constant .none k p] pos) (wTest (wIsN true wa)) := PT.imp (pt_cmpR op_notN ha pe_non (nomark _)) fun σ H Q ⟨α, Γ, μ, R, Z, r, w, k, z⟩ =>
  ⟨α, Γ, μ, _, Z, r, w, fun d v α1 μ1 H1 w1 r1 m1 i1 => ⟨rfl, _, rfl, by
    have e := isNon_of i1
    rw [e]
    exact k _ _ _ _ w1 r1 m1⟩, z⟩
end
/-- a name's target -/
abbrev tfN (j : Nat) : D → Gam → Option Gam := fun d Γ => some (Γ.set j (some d))
/-! {} that nobody fills -/
section
variable {X : Cx} {C : Cfg} {W : WX} {pos : Pos}
def wDict0 : DX := fun _ μ R _ => R (.dk [] []) μ
theorem de_dict0 : DE X C W (.Dict [] [] pos) wDict0 := (pe_dnewK).imp fun σ H Q ⟨α, Γ, μ, R, Z, r, w, k, z⟩ => by
  intro p hp
  exact k _ _ _ _ _ w (r.ext (ex_new hp)) (Mv.ext (ex_new hp)) (.dk (xs := []) (r.laid _ hp) rfl .nil)
end
end TC

set_option Elab.async false
set_option linter.all false
set_option maxRecDepth 100000
set_option maxHeartbeats 2000000
namespace TC
open PySem PySem.Spec PyProof.Rows L2
def rRepF (K : PySem.W.Frag) : R2 := fun x y H Q => ∃ l k xs, x = .ref l ∧ y = .int k ∧ SqT K H l xs ∧ xs ≠ [] ∧ 2 ≤ k ∧ k ≤ 1000 ∧ xs.length ≤ 1000 ∧ NewT (List.replicate k.toNat xs).flatten H Q
section
variable {X : Cx}
theorem op_repF : OpR X (binaryOp .Mult) (rRepF X.K) := by
  intro pins s σ H x y v u Q I rx ry h
  obtain ⟨l, k, xs, rfl, rfl, hT, hne, h1, h2, hz, q⟩ := h
  cases rx
  obtain ⟨t, rfl⟩ := ry
  obtain ⟨its, r, ⟨⟨cls, dd, dat, sl⟩, ho, hc, n, hd⟩, hs⟩ := I.tuple hT
  simp only at hc hd
  subst hc hd
  have hle : its.length = xs.length := r.length.symm
  have hn : its ≠ [] := fun e => hne (by
    rw [e] at hle
    exact List.eq_nil_of_length_eq_zero hle.symm)
  have hi : its.toArray.isEmpty = false := by
    cases its with
    | nil => exact absurd rfl hn
    | cons a b => rfl
  have hsz0 : its.toArray.size = xs.length := by rw [List.size_toArray, hle]
  have hm : ((its.toArray.size : Nat) : Int) * k ≤ 1000000 := by
    rw [hsz0]
    have a1 : ((xs.length : Nat) : Int) * k ≤ 1000 * k := Int.mul_le_mul_of_nonneg_right (by omega) (by omega)
    omega
  have flen0 : k.toNat * xs.length ≤ 1000 * 1000 := Nat.mul_le_mul (by omega) hz
  have flen : (List.replicate k.toNat its).flatten.length ≤ sizeLine := by
    rw [PyProof.Rows.lm_len_rep_flat, hle, sizeLine_eq]
    omega
  have c0 : (decide (k < -(2 ^ 63)) || decide (k ≥ 2 ^ 63)) = false := by
    rw [decide_eq_false (by omega), decide_eq_false (by omega)] <;> rfl
  have c1 : (its.toArray.isEmpty || k == 1) = false := by
    rw [hi, Bool.false_or]
    exact beq_eq_false_iff_ne.mpr (by omega)
  have c2 : (decide (k ≤ 0) || its.toArray.isEmpty) = false := by
    rw [hi, Bool.or_false]
    exact decide_eq_false (by omega)
  have c4 : Builtin.Tuple.tupleTooMany (((its.toArray.size : Nat) : Int) * k) = false := by
    unfold Builtin.Tuple.tupleTooMany
    rw [sizeLine_eq]
    exact decide_eq_false (by omega)
  refine wpAny_binaryOp_repeat_ref (T := "tuple") (U := "int") (by decide) ⟨_, ho, rfl⟩ (fun s' => typeIs_int s' k t) noFill_tuple_mul F.fills_int_mul F.slot_int_rmul repeat_tuple F.slot_int_index.lookup
    (call_meets F.slot_int_rmul (typeIs_int s k t) F.entry_int_rmul (F.args_int_rmul_2 _ _) (int_rmul_tuple k t l its.toArray n dd sl)
      ⟨ho, rfl, ⟨_, ho, rfl⟩, call_meets F.slot_tuple_mul ⟨_, ho, rfl⟩ F.entry_tuple_mul (F.args_tuple_mul_2 _ _) (tuple_mulW l its.toArray n dd sl k t c0 c1 c2 (by omega) c4 (by rw [size_rep, List.size_toArray]; exact flen)) ⟨ho, ?_⟩⟩)
  rw [size_rep]
  exact newT_ok I (r.rep k.toNat) (by rw [PyProof.Rows.lm_len_rep_flat, sizeLine_eq]; omega) q
end
section
variable {X : Cx} {C : Cfg} {W : WX} {a b : Expr} {wa wb : DX} {pos : Pos}
/-- * of numbers; of a tuple, a list, and a number -/
def dMul : D → D → Mem → RD → Prop := fun x y μ R => match x, y with
  | .int i, .int j => ((-(2 ^ 64) < i ∧ i < 2 ^ 64) ∨ (-(2 ^ 64) < j ∧ j < 2 ^ 64)) ∧ R (.int (i * j)) μ
  | .tup ds, .int k => (ds ≠ [] ∧ 2 ≤ k ∧ k ≤ 1000 ∧ ds.length ≤ 1000) ∧ R (.tup (List.replicate k.toNat ds).flatten) μ
  | .lst ds, .int k => (0 ≤ k ∧ k ≤ 1000 ∧ ds.length ≤ 1000) ∧ R (.lst (List.replicate k.toNat ds).flatten) μ
  | _, _ => False
theorem Iss.rep {K : PySem.W.Frag} {S : Sts} {α : List Addr} {G : Hp} {ds : List D} {xs : List V} (h : Iss K S α G ds xs) : ∀ n : Nat, Iss K S α G (List.replicate n ds).flatten (List.replicate n xs).flatten
  | 0 => .nil
  | n + 1 => by
    rw [List.replicate_succ, List.replicate_succ, List.flatten_cons, List.flatten_cons]
    exact h.append (Iss.rep h n)
theorem sn_mul : SndOp C (fun x y H Q => rI (fun i j => (-(2 ^ 64) < i ∧ i < 2 ^ 64) ∨ (-(2 ^ 64) < j ∧ j < 2 ^ 64)) (fun i j => .int (i * j)) x y H Q ∨ rRepF C.K x y H Q ∨ rRep x y H Q) dMul := by
  intro x y v u α σ H Γ μ R Q r ix iy w k
  unfold dMul at w
  split at w
  · cases ix
    cases iy
    exact .inl ⟨_, _, rfl, rfl, w.1, k _ _ _ _ _ w.2 r Mv.refl (.int _)⟩
  · cases iy
    cases ix with
    | tup h q =>
      obtain ⟨⟨h1, h2, h3, h4⟩, w⟩ := w
      have hl := q.length
      refine .inr (.inl ⟨_, _, _, rfl, rfl, gk_ex.t h.sq, fun e => h1 ?_, h2, h3, by omega, fun p ob hp ho => ?_⟩)
      · subst e
        exact List.eq_nil_of_length_eq_zero hl
      · obtain ⟨r2, m2, i2⟩ := r.tup hp ho (Iss.rep q _)
        exact k _ _ _ _ _ w r2 m2 i2
  · cases iy
    cases ix with
    | lst h q =>
      obtain ⟨⟨h1, h2, h4⟩, w⟩ := w
      have hl := q.length
      rename_i kk _ _
      refine .inr (.inr ⟨_, _, _, rfl, rfl, gk_ex _ _ h, by omega, by omega, ?_, fun p hp => ?_⟩)
      · rw [sizeLine_eq, ← hl]
        have : ∀ n : Nat, n ≤ 1000 → ∀ m : Nat, m ≤ 1000 → m * n ≤ 16777216 := fun n hn m hm => Nat.le_trans (Nat.mul_le_mul hm hn) (by decide)
        exact this _ (by omega) _ h4
      · obtain ⟨r2, m2, i2⟩ := r.lst hp (Iss.rep q _)
        exact k _ _ _ _ _ w r2 m2 i2
  · exact w.elim
theorem de_mul (hK : X.K = C.K) (ha : DE X C W a wa) (hb : DE X C W b wb) : DE X C W (.BinOp a .Mult b pos) (wBin dMul wa wb) :=
  de_op (opr_or op_mul (opr_or (by have h := op_repF (X := X); rw [hK] at h; exact h) op_rep)) sn_mul ha hb
end
end TC

set_option Elab.async false
set_option linter.all false
set_option maxRecDepth 100000
set_option maxHeartbeats 2000000
/-! x += e; x[i] = e; a list of a thing many times, that will change; powers. -/
namespace TC
open PySem PySem.Spec PyProof.Rows L2
section
variable {X : Cx} {C : Cfg} {W : WX} {a b e o ie : Expr} {st : Stmt} {wa wb we wo wi : DX} {pos : Pos}
def wAug (j : Nat) (f : D → D → Mem → RD → Prop) (we : DX) : DS := fun Γ μ P => match Γ[j]? with
  | some (some x) => we Γ μ (fun y μ1 => f x y μ1 fun d μ2 => P.nx (Γ.set j (some d)) μ2) P.rz
  | _ => False
theorem ds_aug {j : Nat} {f : D → D → Mem → RD → Prop} {ti : R2} (sn : SndOp C ti f) (h : PS X st (tAug j (canE C W we) ti)) : DSt X C W st (wAug j f we) := h.imp fun D σ H ⟨α, Γ, μ, P, r, w, n, t, b, c, z⟩ => by
  unfold wAug at w
  split at w
  · rename_i x hx
    obtain ⟨v, h1, h2⟩ := r.env j x hx
    refine ⟨v, h1, α, Γ, μ, _, _, r, w, fun y u α1 μ1 H1 w1 r1 m1 i1 => ?_, z⟩
    refine sn x y v u α1 σ H1 Γ μ1 _ _ r1 (m1.is h2) i1 w1 fun d v' α2 μ2 H2 w2 r2 m2 i2 => ?_
    exact n α2 _ μ2 _ H2 w2 (r2.setv i2) (m1.trans m2)
  · exact w.elim
def iAdd := fI (fun i j => .int (i + j)) fT
def iSub := fI (fun i j => .int (i - j)) fT
theorem ip_of {op : Operator} {r : R2} (h : OpR X (inplaceOp op) r) : PIp X op r := fun pins s σ H x y v u Q I rx ry q => h pins s σ H x y v u Q I rx ry q
theorem ip_addI : PIp X .Add (rI (fun _ _ => True) fun i j => .int (i + j)) := ip_of (opr_I0 iop_add)
theorem ip_subI : PIp X .Sub (rI (fun _ _ => True) fun i j => .int (i - j)) := ip_of (opr_I0 iop_sub)
theorem sn_iadd : SndOp C (rI (fun _ _ => True) fun i j => .int (i + j)) iAdd := sn_I fun _ _ _ _ => .int _
theorem sn_isub : SndOp C (rI (fun _ _ => True) fun i j => .int (i - j)) iSub := sn_I fun _ _ _ _ => .int _
/-- x[i] = e, x a list that changes -/
def wSetL (wo wi we : DX) : DS := fun Γ μ P => we Γ μ (fun d μ1 => wo Γ μ1 (fun o μ2 => wi Γ μ2 (fun i μ3 => match o, i with
  | .mt k, .int i => match μ3[k]? with
    | some (.lst xs) => ∃ j, ixN xs.length i = some j ∧ P.nx Γ (μ3.set k (.lst (xs.set j d)))
    | _ => False
  | _, _ => False) P.rz) P.rz) P.rz
theorem Iss.setD {K : PySem.W.Frag} {S : Sts} {α : List Addr} {G : Hp} {d : D} {v : V} (h : Is K S α G d v) : ∀ {ds : List D} {xs : List V} (j : Nat), Iss K S α G ds xs → Iss K S α G (ds.set j d) (xs.set j v)
  | _, _, _, .nil => .nil
  | _, _, 0, .cons _ r => .cons h r
  | _, _, j + 1, .cons p r => .cons p (Iss.setD h j r)
theorem ds_setL (h : PS X st (tAsg (canE C W we) (gSub (canE C W wo) (canE C W wi) rSetL))) : DSt X C W st (wSetL wo wi we) := h.imp fun D σ H ⟨α, Γ, μ, P, r, w, n, t, b, c, z⟩ => by
  refine ⟨α, Γ, μ, _, _, r, w, fun d v α1 μ1 H1 w1 r1 m1 i1 => ?_, z⟩
  refine ⟨α1, Γ, μ1, _, _, r1, w1, fun o u α2 μ2 H2 w2 r2 m2 i2 => ?_, z.mv m1⟩
  refine ⟨α2, Γ, μ2, _, _, r2, w2, fun i y α3 μ3 H3 w3 r3 m3 i3 => ?_, z.mv (m1.trans m2)⟩
  have io := m3.is i2
  have id := (m2.trans m3).is i1
  split at w3
  · rename_i kk ii
    cases i3
    cases io with
    | mt hk =>
      split at w3
      · rename_i xs hq
        obtain ⟨jj, hj, w3⟩ := w3
        obtain ⟨zs, h1, h2⟩ := r3.cells _ _ _ hk hq
        obtain ⟨r4, m4⟩ := r3.write (o := .lst (zs.set jj v)) (c := .lst (xs.set jj d)) hk (by rw [hq]; exact fun q => nomatch q) ⟨_, upd_same, Iss.setD id jj h2⟩ (fun q => nomatch q)
        exact ⟨_, zs, _, jj, rfl, rfl, h1, by rw [← h2.length]; exact hj, n _ _ _ _ _ w3 r4 (m1.trans (m2.trans (m3.trans m4)))⟩
      · exact w3.elim
  · exact w3.elim
/-- [x] * n, a list that will change -/
def dMulM : D → D → Mem → RD → Prop := fun x y μ R => match x, y with
  | .lst ds, .int k => (0 ≤ k ∧ k ≤ 1000 ∧ ds.length ≤ 1000) ∧ R (.mt μ.length) (μ ++ [.lst (List.replicate k.toNat ds).flatten])
  | _, _ => False
theorem sn_mulM : SndOp C rRep dMulM := by
  intro x y v u α σ H Γ μ R Q r ix iy w k
  unfold dMulM at w
  split at w
  · cases iy
    cases ix with
    | lst h q =>
      obtain ⟨⟨h1, h2, h4⟩, w⟩ := w
      have hl := q.length
      refine ⟨_, _, _, rfl, rfl, gk_ex _ _ h, by omega, by omega, ?_, fun p hp => ?_⟩
      · rw [sizeLine_eq, ← hl]
        have : ∀ n : Nat, n ≤ 1000 → ∀ m : Nat, m ≤ 1000 → m * n ≤ 16777216 := fun n hn m hm => Nat.le_trans (Nat.mul_le_mul hm hn) (by decide)
        exact this _ (by omega) _ h4
      · obtain ⟨r2, m2, i2⟩ := r.mlst hp (Iss.rep q _)
        exact k _ _ _ _ _ w r2 m2 i2
  · exact w.elim
theorem de_mulM (ha : DE X C W a wa) (hb : DE X C W b wb) : DE X C W (.BinOp a .Mult b pos) (wBin dMulM wa wb) := de_op op_rep sn_mulM ha hb
def dPow := fI (fun i j => .int (i ^ j.toNat)) fun i j => 0 ≤ j ∧ j ≤ 1000000 ∧ i.natAbs < 2 ^ 64
theorem de_pow (ha : DE X C W a wa) (hb : DE X C W b wb) : DE X C W (.BinOp a .Pow b pos) (wBin dPow wa wb) := de_op op_pow (sn_I fun _ _ _ _ => .int _) ha hb
end
end TC

set_option Elab.async false
set_option linter.all false
set_option maxRecDepth 100000
set_option maxHeartbeats 2000000
/-! What the defs are to do, at the data level. -/
namespace TC
open PySem PySem.Spec PyProof.Rows L2
structure Adr where
  c_CoatError : Addr
  c_NoSize : Addr
  c_NoTurn : Addr
  c_NoGroup : Addr
def d_SIZES : D := .tup [.int 2, .int 3, .int 4, .int 5]
/-! ### things -/
def isNum (x : D) : Bool := match x with
  | .int _ => true
  | _ => false
/-- a thing that the look at kinds knows -/
def okD (x : D) : Bool := (tyN x).isSome && x.pure
def okT (x : D) : Bool := okD x && match x with
  | .tup ds => ds.all okD && decide (ds.length ≤ 1000)
  | _ => true
def nums : List D → Option (List Int)
  | [] => some []
  | .int i :: ds => (nums ds).map (i :: ·)
  | _ :: _ => none
def tOk (ns : List Int) : Bool := (2 ≤ ns.length && ns.length ≤ 5) && (List.range ns.length).all fun (k : Nat) => ns.contains (k : Int)
def sizeOf (x : D) : Nat := match x with
  | .tup ds => match nums ds with
    | some ns => if tOk ns = true then ns.length else 0
    | none => 0
  | _ => 0
def isSize (x : D) : Bool := match x with
  | .int n => decide (2 ≤ n ∧ n ≤ 5)
  | _ => false
def tI (ns : List Int) : D := .tup (ns.map D.int)
def putL (a b : List Int) : List Int := b.map fun k => a.getD k.toNat 0
def backL (a : List Int) : List Int := (List.range a.length).map fun (k : Nat) => ((a.idxOf (k : Int) : Nat) : Int)
def rgL (n : Nat) : List Int := (List.range n).map fun (k : Nat) => (k : Int)


def sp_is_number (A : Adr) : SpD := fun ds R _ => ∃ x, ds = [x] ∧ okD x = true ∧ R (.bl (isNum x))
def sp_size_of (A : Adr) : SpD := fun ds R _ => ∃ x, ds = [x] ∧ okT x = true ∧ R (.int (sizeOf x : Nat))
def sp_need_size (A : Adr) : SpD := fun ds R Z => ∃ x, ds = [x] ∧ okT x = true ∧ (isSize x = true → R .non) ∧ (isSize x = false → Z A.c_NoSize)
def sp_need_turn (A : Adr) : SpD := fun ds R Z => ∃ x, ds = [x] ∧ okT x = true ∧ (sizeOf x ≠ 0 → R (.int (sizeOf x : Nat))) ∧ (sizeOf x = 0 → Z A.c_NoTurn)
def sp_put (A : Adr) : SpD := fun ds R _ => ∃ a b : List Int, ds = [tI a, tI b] ∧ (∀ k ∈ b, 0 ≤ k ∧ k < a.length) ∧ b.length ≤ 1000 ∧ R (tI (putL a b))
def sp_back (A : Adr) : SpD := fun ds R _ => ∃ a : List Int, ds = [tI a] ∧ (∀ k : Nat, k < a.length → (k : Int) ∈ a) ∧ a.length ≤ 1000 ∧ R (tI (backL a))
def sp_is_turn (A : Adr) : SpD := fun ds R Z => ∃ x y, ds = [x, y] ∧ okT x = true ∧ okT y = true ∧ (∀ n : Int, y = .int n → 2 ≤ n → n ≤ 5 → R (.bl (decide ((sizeOf x : Int) = n)))) ∧ (isSize y = false → Z A.c_NoSize)
def sp_plain (A : Adr) : SpD := fun ds R Z => ∃ x, ds = [x] ∧ okT x = true ∧ (∀ n : Nat, x = .int n → 2 ≤ n → n ≤ 5 → R (tI (rgL n))) ∧ (isSize x = false → Z A.c_NoSize)
def sp_into (A : Adr) : SpD := fun ds R Z => ∃ x y, ds = [x, y] ∧ okT x = true ∧ okT y = true ∧ (∀ a b : List Int, x = tI a → y = tI b → tOk a = true → tOk b = true → a.length = b.length → R (tI (putL a b))) ∧
  (¬ (sizeOf x ≠ 0 ∧ sizeOf x = sizeOf y) → Z A.c_NoTurn)
def sp_undone (A : Adr) : SpD := fun ds R Z => ∃ x, ds = [x] ∧ okT x = true ∧ (∀ a : List Int, x = tI a → tOk a = true → R (tI (backL a))) ∧ (sizeOf x = 0 → Z A.c_NoTurn)

end TC

set_option Elab.async false
set_option linter.all false
set_option maxRecDepth 100000
set_option maxHeartbeats 2000000
/-! What the drawing defs are to do. -/
namespace TC
open PySem PySem.Spec PyProof.Rows L2
def sp_law_state (A : Adr) : SpD := fun ds R _ => ∃ ns : List Int, ds = [.scr ns] ∧ ns.length ≤ 63 ∧ ∀ cs : List Int, cs ≠ [] → cs.length ≤ 64 → (∀ c ∈ cs, 0 ≤ c) → R (.lst [.lst (cs.map D.int), .int 0, .int 1])
def sp_law_draw (A : Adr) : SpD := fun ds R _ => ∃ m : Int, ds = [.st, .int m] ∧ 0 < m ∧ m < 1000000000000000000000000000000000000000000 ∧ ∀ r : Int, 0 ≤ r → r < m → R (.int r)
def sp_law_pick (A : Adr) : SpD := fun ds R _ => ∃ xs : List D, ds = [.st, .lst xs] ∧ xs ≠ [] ∧ xs.length ≤ 1000 ∧ pures xs = true ∧ ∀ d ∈ xs, R d
def sp_law_mixed (A : Adr) : SpD := fun ds R _ => ∃ ns : List Int, ds = [.st, .lst (ns.map D.int)] ∧ ns.length ≤ 1000 ∧ ∀ ms : List Int, ms.Perm ns → R (.lst (ms.map D.int))
def sp_law_a_turn (A : Adr) : SpD := fun ds R _ => ∃ n : Int, ds = [.st, .int n] ∧ 2 ≤ n ∧ n ≤ 5 ∧ ∀ a : List Int, tOk a = true → (a.length : Int) = n → R (tI a)
def sp_law_into (A : Adr) : SpD := sp_put A
def sp_law_undone (A : Adr) : SpD := sp_back A
def sp_law_exact (A : Adr) : SpD := fun ds R _ => ∃ a b : List Int, ds = [tI a, tI b] ∧ a.length ≤ 1000 ∧ b.length ≤ 1000 ∧ R (.bl (decide (a = b)))
/-- what is handed on as odd: the kinds known, nothing mutable within -/
def thing (x : D) : Bool := okT x && x.pure
def sp_law_other (A : Adr) : SpD := fun ds R _ => ∃ a : List Int, ds = [.st, tI a] ∧ tOk a = true ∧ ∀ d : D, thing d = true → R d
def sp_law_is_turn (A : Adr) : SpD := fun ds R _ => ∃ (x : D) (n : Nat), ds = [x, .int n] ∧ okT x = true ∧ 2 ≤ n ∧ n ≤ 5 ∧ R (.bl (decide (sizeOf x = n)))
/-- what a way of asking tells -/
def doneOk (way : Str) (x y : D) (R : D → Prop) (ZS ZT : Prop) : Prop :=
  (way = "into" ∧ (∀ a b : List Int, x = tI a → y = tI b → tOk a = true → tOk b = true → a.length = b.length → R (tI (putL a b))) ∧ (¬ (sizeOf x ≠ 0 ∧ sizeOf x = sizeOf y) → ZT)) ∨
  (way = "undone" ∧ (∀ a : List Int, x = tI a → tOk a = true → R (tI (backL a))) ∧ (sizeOf x = 0 → ZT)) ∨
  (way = "plain" ∧ (∀ n : Nat, x = .int n → 2 ≤ n → n ≤ 5 → R (tI (rgL n))) ∧ (isSize x = false → ZS))
def sp_law_done (A : Adr) : SpD := fun ds R Z => ∃ (way : Str) (x y : D), ds = [.str way, x, y] ∧ thing x = true ∧ thing y = true ∧ doneOk way x y R (Z A.c_NoSize) (Z A.c_NoTurn)
def sp_law_tried (A : Adr) : SpD := fun ds R _ => ∃ (way : Str) (x y : D), ds = [.str way, x, y] ∧ thing x = true ∧ thing y = true ∧ doneOk way x y (fun _ => R (.str "told")) (R (.str "size")) (R (.str "turn"))
def sp_law_known (A : Adr) : SpD := fun ds R _ => ∃ (x : D) (b : List Int), ds = [x, tI b] ∧ thing x = true ∧ tOk b = true ∧ R (.bl true)
def sp_law (A : Adr) : SpD := fun ds R _ => R (.bl true)
end TC

set_option Elab.async false
set_option linter.all false
set_option maxRecDepth 100000
set_option maxHeartbeats 2000000
/-! Turns as rows of numbers. -/
namespace TC
open PySem PySem.Spec PyProof.Rows L2
/-! ### == of rows of numbers -/
theorem py_ints : ∀ ns : List Int, pys (ns.map D.int) = ns.map PyData.int
  | [] => rfl
  | n :: ns => by
    show PyData.int n :: pys (ns.map D.int) = _
    rw [py_ints ns]
    rfl
theorem isPy_ints : ∀ ns : List Int, isPys (ns.map D.int) = true
  | [] => rfl
  | n :: ns => isPy_ints ns
theorem canLay_ints : ∀ ns : List Int, PyData.canLayAll0 (ns.map PyData.int) = true
  | [] => rfl
  | _ :: r => by simp [PyData.canLayAll0, PyData.canLay0, canLay_ints r]
theorem depth_ints : ∀ ns : List Int, PyData.depthAll (ns.map PyData.int) = 0
  | [] => rfl
  | _ :: r => by simp [PyData.depthAll, PyData.depth, depth_ints r]
theorem shaped_ints (ns : List Int) : SeqAt.shaped (.list (ns.map PyData.int)) = true := by
  simp [SeqAt.shaped, PyData.canLay0, PyData.depth, canLay_ints, depth_ints]
theorem shaped_intsT (ns : List Int) : SeqAt.shaped (.tuple (ns.map PyData.int)) = true := by
  simp [SeqAt.shaped, PyData.canLay0, PyData.depth, canLay_ints, depth_ints]
theorem eqOk_tI (ns : List Int) : eqOk (tI ns) = true := by
  show (isPys (ns.map D.int) && SeqAt.shaped (.tuple (pys (ns.map D.int)))) = true
  rw [isPy_ints, py_ints]
  exact shaped_intsT ns
theorem eqOk_lI (ns : List Int) : eqOk (.lst (ns.map D.int)) = true := by
  show (isPys (ns.map D.int) && SeqAt.shaped (.list (pys (ns.map D.int)))) = true
  rw [isPy_ints, py_ints]
  exact shaped_ints ns
theorem eqvAll_ints : ∀ ns ms : List Int, PyData.eqvAll (ns.map PyData.int) (ms.map PyData.int) = decide (ns = ms)
  | [], [] => by simp [PyData.eqvAll]
  | [], _ :: _ => by simp [PyData.eqvAll]
  | _ :: _, [] => by simp [PyData.eqvAll]
  | n :: ns, m :: ms => by
    simp only [List.map_cons, PyData.eqvAll, eqvAll_ints ns ms, PyData.eqv]
    by_cases h : n = m <;> by_cases h' : ns = ms <;> simp [h, h']
theorem deq_tI (ns ms : List Int) : deq (tI ns) (tI ms) = decide (ns = ms) := by
  show PyData.eqv (.tuple (pys (ns.map D.int))) (.tuple (pys (ms.map D.int))) = _
  rw [py_ints, py_ints, PyData.eqv, eqvAll_ints]
theorem deq_lI (ns ms : List Int) : deq (.lst (ns.map D.int)) (.lst (ms.map D.int)) = decide (ns = ms) := by
  show PyData.eqv (.list (pys (ns.map D.int))) (.list (pys (ms.map D.int))) = _
  rw [py_ints, py_ints, PyData.eqv, eqvAll_ints]
theorem deq_int (n m : Int) : deq (.int n) (.int m) = decide (n = m) := by
  show PyData.eqv (.int n) (.int m) = _
  rw [PyData.eqv]
  by_cases h : n = m <;> simp [h]
theorem eqOk_int (n : Int) : eqOk (.int n) = true := by
  show (true && SeqAt.shaped (.int n)) = true
  simp [SeqAt.shaped, PyData.canLay0, PyData.depth]
theorem in_sizes (n : Int) : (([.int 2, .int 3, .int 4, .int 5] : List D).any fun z => deq z (.int n)) = decide (2 ≤ n ∧ n ≤ 5) := by
  simp only [List.any_cons, List.any_nil, deq_int, Bool.or_false]
  by_cases h : 2 ≤ n ∧ n ≤ 5
  · rw [decide_eq_true h]
    simp
    omega
  · rw [decide_eq_false h]
    simp
    omega
/-! ### perms -/
theorem perm_of_sub : ∀ {a b : List Int}, a.Nodup → (∀ x ∈ a, x ∈ b) → b.length ≤ a.length → a.Perm b
  | [], b, _, _, h => by
    cases b with
    | nil => exact .nil
    | cons _ _ => simp at h
  | x :: xs, b, hn, hs, h => by
    have hb := hs x (List.mem_cons_self ..)
    have p := List.perm_cons_erase hb
    have hn' := List.nodup_cons.mp hn
    refine .trans (.cons x (perm_of_sub (b := b.erase x) hn'.2 (fun y hy => ?_) ?_)) p.symm
    · exact (List.mem_erase_of_ne (fun e : y = x => hn'.1 (by rw [← e]; exact hy))).mpr (hs y (List.mem_cons_of_mem _ hy))
    · have := p.length_eq
      simp at this h ⊢
      omega
theorem rgL_len (n : Nat) : (rgL n).length = n := by unfold rgL; simp
theorem rgL_mem {n : Nat} {i : Int} : i ∈ rgL n ↔ 0 ≤ i ∧ i < n := by
  unfold rgL
  rw [List.mem_map]
  constructor
  · rintro ⟨k, h, rfl⟩
    have := List.mem_range.mp h
    omega
  · rintro ⟨h1, h2⟩
    exact ⟨i.toNat, List.mem_range.mpr (by omega), by omega⟩
theorem rgL_lt (n : Nat) : (rgL n).Pairwise (· < ·) := by
  unfold rgL
  rw [List.pairwise_map]
  exact List.pairwise_lt_range.imp fun h => by omega
theorem rgL_nodup (n : Nat) : (rgL n).Nodup := (rgL_lt n).imp fun h => by omega
theorem tOk_iff {ns : List Int} : tOk ns = true ↔ (2 ≤ ns.length ∧ ns.length ≤ 5) ∧ ∀ k : Nat, k < ns.length → (k : Int) ∈ ns := by
  unfold tOk
  simp
theorem tOk_perm {ns : List Int} (h : tOk ns = true) : (rgL ns.length).Perm ns := by
  obtain ⟨_, h⟩ := tOk_iff.mp h
  refine perm_of_sub (rgL_nodup _) (fun x hx => ?_) (by rw [rgL_len]; exact Nat.le_refl _)
  obtain ⟨h1, h2⟩ := rgL_mem.mp hx
  have := h x.toNat (by omega)
  rw [Int.toNat_of_nonneg h1] at this
  exact this
theorem tOk_of_perm {ns : List Int} {n : Nat} (h : ns.Perm (rgL n)) (h2 : 2 ≤ n) (h5 : n ≤ 5) : tOk ns = true := by
  have hl := h.length_eq
  rw [rgL_len] at hl
  refine tOk_iff.mpr ⟨by omega, fun k hk => h.mem_iff.mpr (rgL_mem.mpr (by omega))⟩
theorem tOk_mem {ns : List Int} (h : tOk ns = true) {x : Int} (hx : x ∈ ns) : 0 ≤ x ∧ x < ns.length := rgL_mem.mp ((tOk_perm h).mem_iff.mpr hx)
theorem tOk_nodup {ns : List Int} (h : tOk ns = true) : ns.Nodup := (tOk_perm h).nodup_iff.mp (rgL_nodup _)
theorem tOk_rg {n : Nat} (h2 : 2 ≤ n) (h5 : n ≤ 5) : tOk (rgL n) = true := tOk_of_perm (.refl _) h2 h5
theorem sorted_rg {ns' ns : List Int} (p : ns'.Perm ns) (s : ns'.Pairwise (· ≤ ·)) (h2 : 2 ≤ ns.length) (h5 : ns.length ≤ 5) : decide (ns' = rgL ns.length) = tOk ns := by
  cases h : tOk ns with
  | true =>
    refine decide_eq_true (List.Perm.eq_of_pairwise (le := (· ≤ ·)) (fun a b _ _ h1 h2 => by omega) s ((rgL_lt _).imp fun h => by omega) (p.trans (tOk_perm h).symm))
  | false =>
    refine decide_eq_false fun e => ?_
    rw [tOk_of_perm (p.symm.trans (by rw [e])) h2 h5] at h
    cases h
theorem nums_some : ∀ {ds : List D} {ns : List Int}, nums ds = some ns → ds = ns.map D.int
  | [], ns, h => by
    have h : some [] = some ns := h
    cases h
    rfl
  | d :: ds, ns, h => by
    cases d with
    | int i =>
      have h : (nums ds).map (i :: ·) = some ns := h
      cases q : nums ds with
      | none => rw [q] at h; cases h
      | some ms =>
        rw [q] at h
        cases h
        rw [nums_some q]
        rfl
    | _ => cases h
theorem nums_ints : ∀ ns : List Int, nums (ns.map D.int) = some ns
  | [] => rfl
  | n :: ns => by
    show (nums (ns.map D.int)).map (n :: ·) = _
    rw [nums_ints ns]
    rfl
theorem nums_none : ∀ {ds : List D}, nums ds = none → (ds.map isNum).all id = false
  | [], h => by cases h
  | d :: ds, h => by
    cases d with
    | int i =>
      have h : (nums ds).map (i :: ·) = none := h
      cases q : nums ds with
      | none =>
        show (true && (ds.map isNum).all id) = false
        rw [nums_none q]
        rfl
      | some ms => rw [q] at h; cases h
    | _ => rfl
theorem isNum_ints (ns : List Int) : ((ns.map D.int).map isNum).all id = true := by
  rw [List.all_eq_true]
  intro b hb
  obtain ⟨d, hd, rfl⟩ := List.mem_map.mp hb
  obtain ⟨n, _, rfl⟩ := List.mem_map.mp hd
  rfl
theorem rgD_rgL (n : Nat) : rgD 0 n = (rgL n).map D.int := by
  unfold rgD rgL
  rw [List.map_map]
  simp
theorem sizeOf_tI (ns : List Int) : sizeOf (tI ns) = if tOk ns = true then ns.length else 0 := by
  show (match nums (ns.map D.int) with | some ns => if tOk ns = true then ns.length else 0 | none => 0) = _
  rw [nums_ints]
theorem sizeOf_ok {ns : List Int} (h : tOk ns = true) : sizeOf (tI ns) = ns.length := by rw [sizeOf_tI, if_pos h]
theorem sizeOf_turn {x : D} (h : sizeOf x ≠ 0) : ∃ ns, x = tI ns ∧ tOk ns = true ∧ sizeOf x = ns.length := by
  cases x with
  | tup ds =>
    have e : sizeOf (.tup ds) = match nums ds with | some ns => if tOk ns = true then ns.length else 0 | none => 0 := rfl
    rw [e] at h ⊢
    cases q : nums ds with
    | none => rw [q] at h; exact absurd rfl h
    | some ns =>
      rw [q] at h
      by_cases ht : tOk ns = true
      · exact ⟨ns, by rw [nums_some q]; rfl, ht, if_pos ht⟩
      · have h : (if tOk ns = true then ns.length else 0) ≠ 0 := h
        rw [if_neg ht] at h
        exact absurd rfl h
  | _ => exact absurd rfl h
end TC

set_option Elab.async false
set_option linter.all false
set_option maxRecDepth 100000
set_option maxHeartbeats 2000000
/-! The law's own def; the drawing. -/
namespace TC
open PySem PySem.Spec PyProof.Rows L2
def spLaw (K : PySem.W.Frag) : Sp := fun vs H Q _ => ∃ (a : Addr) (ns : List Int), vs = [.ref a] ∧ SqL K H a (ns.map V.int) ∧ ns.length ≤ 63 ∧ ∀ H', Q (.bl true) H'
def gamS (n j : Nat) : Gam := (List.replicate n none).set j (some .st)
section
variable {P : Program} {w : World} {K : PySem.W.Frag} {mg : Str → Option Value} {base : Heap}
open Classical in
theorem law_fn {A : Adr} {x qual : Str} {st s0 : Stmt} {rest : List Stmt} {f : Addr} {fd : FuncData} {N : List Str} {k j : Nat} {wb : DS} (F : Fun K x qual st f fd) (S : FnScope N ["script"] (defScope st)) (hb : defBody st = s0 :: rest) (hN : 1 ≤ N.length ∧ j < N.length)
    (first : ∀ (S : Sts) (N0 : Addr → Bool) (H0 : Hp) (cdv : Value) (A0 : Around) (outer : List Env) (s : Shared) (H : Hp) (E : XK), Room k (A0.deeper (envOfC qual (defScope st) s.heap.objs.size f cdv)) →
      DSt (cxOf (L2.CX P w) P w K mg base N qual (defScope st) f cdv A0 outer s H E) ⟨K, S, N0, H0⟩ (fun cls d _ H => E cls d H) s0 (wAsg j (wCall 1 (sp_law_state A) (wCons (wVar 0) wNil))))
    (body : ∀ (S : Sts) (N0 : Addr → Bool) (H0 : Hp) (cdv : Value) (A0 : Around) (outer : List Env) (s : Shared) (H : Hp) (E : XK), Room k (A0.deeper (envOfC qual (defScope st) s.heap.objs.size f cdv)) →
      DSs (cxOf (L2.CX P w) P w K mg base N qual (defScope st) f cdv A0 outer s H E) ⟨K, S, N0, H0⟩ (fun cls d _ H => E cls d H) rest wb)
    (sound : wb (gamS N.length j) [] ⟨fun _ _ => False, fun d _ => d = .bl true, fun _ _ => False, fun _ _ => False, fun _ _ _ => False⟩) :
    FnOk P w K mg base (L2.CX P w) (k + 1) f fd ["script"] (spLaw K) := by
  refine F.okX S (fun vs H Q E h => by obtain ⟨a, ns, rfl, _⟩ := h; rfl) fun cdv A0 outer s H vs Q E hr h => ?_
  obtain ⟨a, ns, rfl, hS, hlen, q⟩ := h
  have h1 := first none (fun _ => false) H cdv A0 outer s H E hr
  have h2 : PSs (cxOf (L2.CX P w) P w K mg base N qual (defScope st) f cdv A0 outer s H E) rest (fun D σ H' => ∃ S N0 H0, canS ⟨K, S, N0, H0⟩ (fun cls d _ H => E cls d H) wb D σ H') :=
    ⟨fun pins s1 σ H' D I ⟨S, N0, H0, h⟩ => PSs.run (body S N0 H0 cdv A0 outer s H E hr) pins s1 σ H' D I h⟩
  refine ⟨_, by rw [hb]; exact pss_cons h1 h2, ?_⟩
  have ok : CfgOk ⟨K, none, fun _ => false, H⟩ := ⟨fun a h => (by cases h), fun a ⟨s, c, e, _⟩ => (by cases e), fun s c e => (by cases e)⟩
  have ng : ∀ (H1 : Hp) (a : Addr) (o : HO), H1 a = some o → gk ⟨K, none, fun _ => false, H⟩ [] [] H1 a = some o := fun H1 a o h => gk_of h fun z => by
    have z := hid0.mp z
    cases z
  have r := start_rl (C := ⟨K, none, fun _ => false, H⟩) (N := N) (ds := [.scr ns]) (vs := [.ref a]) ok (.cons (.scr (by
    rcases hS with (h | ⟨o, h⟩) | h
    · exact .inl (.inl (ng _ _ _ h))
    · exact .inl (.inr ⟨o, ng _ _ _ h⟩)
    · exact .inr h)) .nil)
  refine ⟨[], _, [], ⟨fun Γ' μ' => ∃ cs : List Int, (cs ≠ [] ∧ cs.length ≤ 64 ∧ ∀ c ∈ cs, 0 ≤ c) ∧ Γ' = (gam0 N.length [.scr ns]).set j (some (.lst [.lst (cs.map D.int), .int 0, .int 1])), fun _ _ => False, fun _ _ => False, fun _ _ => False, fun _ _ _ => False⟩, r, ?_, ?_, ?_, ?_, ?_, ?_⟩
  · have e0 : (gam0 N.length [.scr ns])[0]? = some (some (.scr ns)) := rfl
    show wAsg j (wCall 1 (sp_law_state A) (wCons (wVar 0) wNil)) _ _ _
    unfold wAsg wCall wCons wVar
    rw [e0]
    refine ⟨⟨rfl, rfl⟩, ns, rfl, hlen, fun cs h1 h2 h3 => ⟨cs, ⟨h1, h2, h3⟩, rfl⟩⟩
  · rintro α' Γ' μ' σ' H' ⟨cs, ⟨c1, c2, c3⟩, rfl⟩ r' m'
    have hj : j < (gam0 N.length [.scr ns]).length := by
      have := r.slen
      unfold gam0
      simp
      omega
    obtain ⟨v, hv, iv⟩ := r'.env j _ (List.getElem?_set_self hj)
    cases iv with
    | lst hs iss =>
      cases iss with
      | cons i1 t1 =>
        cases t1 with
        | cons i2 t2 =>
          cases t2 with
          | cons i3 t3 =>
            cases t3
            cases i2
            cases i3
            cases i1 with
            | lst hc ics =>
              have ec := ics.ints
              subst ec
              rename_i sA cA
              have hs' := gk_ex _ _ hs
              have hc' := gk_ex _ _ hc
              have ne : sA ≠ cA := fun e => by
                rw [e, hc'] at hs'
                cases cs with
                | nil => exact c1 rfl
                | cons n ns => simp at hs'
              refine ⟨some (sA, cA), fun a => decide (a = sA ∨ a = cA), H', [], gamS N.length j, [], ⟨fun _ _ => False, fun d _ => d = .bl true, fun _ _ => False, fun _ _ => False, fun _ _ _ => False⟩, ?_, sound, ?_, ?_, ?_, ?_, ?_⟩
              · refine ⟨fun a o h _ => h, fun a h => ?_, fun a ⟨s, c, e, z⟩ => ?_, fun a h => (by cases h), .nil, fun a h => (by cases h), rfl, fun k a c h _ => (by simp at h), fun s c e => ?_, ?_, fun i d q => ?_⟩
                · have h := of_decide_eq_true h
                  show H' a ≠ none
                  rcases h with h | h
                  · rw [h, hs']; exact fun q => nomatch q
                  · rw [h, hc']; exact fun q => nomatch q
                · cases e
                  exact decide_eq_true z
                · cases e
                  exact ⟨ne, 0, 1, cs, hs', hc', c1, c2, c3, by decide, by decide, by decide⟩
                · rw [← r'.slen]
                  unfold gamS gam0
                  simp
                  omega
                · unfold gamS at q
                  by_cases hi : i = j
                  · subst hi
                    rw [List.getElem?_set_self (by simpa using hN.2)] at q
                    cases q
                    exact ⟨_, hv, .st rfl⟩
                  · rw [List.getElem?_set_ne (Ne.symm hi)] at q
                    have := List.mem_of_getElem? q
                    have := (List.mem_replicate.mp this).2
                    cases this
              · intro _ _ _ _ _ h
                exact h.elim
              · rintro d v _ _ _ _ H2 rfl _ _ i
                cases i
                exact q H2
              · intro _ _ _ _ _ h
                exact h.elim
              · intro _ _ _ _ _ h
                exact h.elim
              · intro _ _ _ _ _ _ h
                exact h.elim
  · intro _ _ _ _ _ _ _ h
    exact h.elim
  · intro _ _ _ _ _ h
    exact h.elim
  · intro _ _ _ _ _ h
    exact h.elim
  · intro _ _ _ _ _ _ h
    exact h.elim
end
/-! ### the drawing -/
def rLenQ (K : PySem.W.Frag) : List V → Hp → VK → Prop := fun xs H Q => ∃ p ys, xs = [.ref p] ∧ (SqL K H p ys ∨ SqT K H p ys) ∧ Q (.int ys.length) H
def rModN : R2 := rI (fun _ j => j ≠ 0) fun i j => .int (i.fmod j)
def rFdivN : R2 := rI CDivW fun i j => .int (i / j)
def rMulI : R2 := rI (fun i j => (-(2 ^ 64) < i ∧ i < 2 ^ 64) ∨ (-(2 ^ 64) < j ∧ j < 2 ^ 64)) fun i j => .int (i * j)
def rAddI : R2 := rI0 fun i j => .int (i + j)
def rGeI : R2 := rI0 fun i j => .bl (decide (j ≤ i))
def tStI (K : PySem.W.Frag) (i : Int) : TE := tOp (rIxL K) (tVar 0) (tC (.int i))
def t_draw (K : PySem.W.Frag) : TS :=
  tSeq (tAsg (tStI K 0) (gName 2))
  (tSeq (tAsg (tOp rModN (tStI K 1) (tCB (rLenQ K) (tCons (tVar 2) tNil))) (gName 3))
  (tSeq (tAsg (tOp (rIxL K) (tVar 2) (tVar 3)) (gName 4))
  (tSeq (tIfS (tTest (tOp rGeI (tVar 4) (tC (.int 1000000000000000000))))
    (tSeq (tAsg (tOp rFdivN (tVar 4) (tVar 1)) (gSub (tVar 2) (tVar 3) rSetL)) (tSeq (tRet (tOp rModN (tVar 4) (tVar 1))) tNext)) tNext)
  (tSeq (tAsg (tOp rAddI (tStI K 1) (tC (.int 1))) (gSub (tVar 0) (tC (.int 1)) rSetL))
  (tSeq (tAsg (tOp rModN (tOp rAddI (tOp rAddI (tOp rMulI (tStI K 2) (tC (.int 48271))) (tVar 4)) (tC (.int 12345))) (tC (.int 2147483647))) (gSub (tVar 0) (tC (.int 2)) rSetL))
  (tSeq (tRet (tOp rModN (tOp rFdivN (tOp rModN (tOp rMulI (tStI K 2) (tStI K 2)) (tC (.int 2147483629))) (tC (.int 16))) (tVar 1))) tNext))))))
theorem fmod_lt {a b : Int} (h : 0 < b) : 0 ≤ a.fmod b ∧ a.fmod b < b := ⟨Int.fmod_nonneg_of_pos a h, Int.fmod_lt_of_pos a h⟩
theorem draw_read {K : PySem.W.Frag} {A : Adr} {vs : List V} {H : Hp} {Q : VK} {E : XK} (h : toSp K 2 (sp_law_draw A) vs H Q E) : t_draw K { nx := fun _ H' => Q .non H', rt := Q } (L2.start ["state", "many", "cells", "at", "cell"] vs) H := by
  obtain ⟨hl2, ⟨K', S, N0, H0⟩, ds, R, Z, eK, eH, ok, is, ⟨m, rfl, m0, m1, hR⟩, hq, _⟩ := h
  have eK : K' = K := eK
  have eH : H0 = H := eH
  subst eK eH
  obtain ⟨v, u, rfl, i1, i2⟩ := iss2 is
  cases i2
  cases i1 with
  | st hS =>
    rename_i s c
    obtain ⟨ne, p, q, ns, hs, hc, h1, h2, h3, p0, q0, q1⟩ := ok.st s c hS
    have out : ∀ H' : Hp, (∀ a o, H0 a = some o → a ≠ s → a ≠ c → H' a = some o) → StOk S H' → ∀ r : Int, 0 ≤ r → r < m → Q (.int r) H' := fun H' k st r r0 r1 =>
      hq (.int r) (.int r) H' (hR r r0 r1) (fun a o h n => k a o h (fun e => n ⟨s, c, hS, .inl e⟩) fun e => n ⟨s, c, hS, .inr e⟩) st (.int r)
    have hnl : 0 < ns.length := List.length_pos_iff.mpr h1
    obtain ⟨a0, a1⟩ := fmod_lt (a := p) (b := (ns.length : Int)) (by omega)
    generalize ha : p.fmod (ns.length : Int) = at_ at a0 a1
    obtain ⟨cell, hcell⟩ : ∃ cell, ns[at_.toNat]? = some cell := ⟨_, List.getElem?_eq_getElem (by omega)⟩
    have hcv : (ns.map V.int)[at_.toNat]? = some (.int cell) := by rw [List.getElem?_map, hcell]; rfl
    have c0 : 0 ≤ cell := h3 _ (List.mem_of_getElem? hcell)
    have eat : (at_.toNat : Int) = at_ := by omega
    have hat : atI (ns.map V.int) at_ = some (.int cell) := by rw [← eat]; exact atI_nat hcv
    refine ⟨_, rfl, s, _, 0, _, rfl, rfl, SqL.of hs, rfl, ?_⟩
    refine ⟨_, rfl, s, _, 1, _, rfl, rfl, SqL.of hs, rfl, _, rfl, c, _, rfl, .inl (SqL.of hc), _, _, rfl, rfl, (by rw [List.length_map]; omega), ?_⟩
    simp only []
    rw [List.length_map, ha]
    refine ⟨_, rfl, _, rfl, c, _, at_, _, rfl, rfl, SqL.of hc, hat, ?_⟩
    refine ⟨_, rfl, _, _, rfl, rfl, _, rfl, ?_⟩
    refine ite2 (fun hge => ?_) (fun hge => ?_)
    · have hge : (1000000000000000000 : Int) ≤ cell := of_decide_eq_true hge
      refine ⟨_, rfl, _, rfl, _, _, rfl, rfl, wide_div (b := 150) m0 (Nat.lt_trans (by omega : m.natAbs < 1000000000000000000000000000000000000000000) (by decide)) (by decide) (by decide), ?_⟩
      have hix : ixN (ns.map V.int).length at_ = some at_.toNat := by
        unfold ixN
        rw [List.length_map, if_pos a0, if_pos a1]
      refine ⟨_, rfl, _, rfl, c, _, at_, _, rfl, rfl, hc, hix, ?_⟩
      refine ⟨_, rfl, _, rfl, _, _, rfl, rfl, (by omega), ?_⟩
      obtain ⟨r0, r1⟩ := fmod_lt (a := cell) m0
      refine out _ (fun a o h n1 n2 => by rw [upd_ne n2]; exact h) (fun s' c' e => ?_) _ r0 r1
      have e := hS.symm.trans e
      cases e
      refine ⟨ne, p, q, ns.set at_.toNat (cell / m), by rw [upd_ne ne]; exact hs, by rw [upd_same, List.map_set], ?_, by rw [List.length_set]; exact h2, fun n hn => ?_, p0, q0, q1⟩
      · intro e
        have := congrArg List.length e
        rw [List.length_set] at this
        simp at this
        exact h1 this
      · rcases List.mem_or_eq_of_mem_set hn with hn | hn
        · exact h3 n hn
        · rw [hn]
          exact Int.ediv_nonneg c0 (by omega)
    · have hge : ¬ (1000000000000000000 : Int) ≤ cell := fun z => hge (decide_eq_true z)
      refine ⟨_, rfl, s, _, 1, _, rfl, rfl, SqL.of hs, rfl, _, _, rfl, rfl, ?_⟩
      refine ⟨_, rfl, s, _, 1, 1, rfl, rfl, hs, rfl, ?_⟩
      have hs1 : upd H0 s (.lst [.ref c, .int (p + 1), .int q]) s = some (.lst [.ref c, .int (p + 1), .int q]) := upd_same
      refine ⟨_, rfl, s, _, 2, _, rfl, rfl, SqL.of hs1, rfl, _, _, rfl, rfl, (.inl ⟨by omega, by omega⟩), _, rfl, _, _, rfl, rfl, _, _, rfl, rfl, _, _, rfl, rfl, (show (2147483647 : Int) ≠ 0 by decide), ?_⟩
      refine ⟨_, rfl, s, _, 2, 2, rfl, rfl, hs1, rfl, ?_⟩
      obtain ⟨q2, q3⟩ := fmod_lt (a := q * 48271 + cell + 12345) (b := 2147483647) (by decide)
      generalize hqq : (q * 48271 + cell + 12345).fmod 2147483647 = qq at q2 q3
      have e2 : List.set [V.ref c, V.int (p + 1), V.int q] 2 (V.int ((q * 48271 + cell + 12345).fmod 2147483647)) = [V.ref c, V.int (p + 1), V.int qq] := by rw [hqq]; rfl
      have hs2 : ∀ G : Hp, upd G s (.lst (List.set [V.ref c, V.int (p + 1), V.int q] 2 (V.int ((q * 48271 + cell + 12345).fmod 2147483647)))) s = some (.lst [V.ref c, V.int (p + 1), V.int qq]) := fun G => by rw [upd_same, e2]
      refine ⟨_, rfl, s, _, 2, _, rfl, rfl, SqL.of (hs2 _), rfl, _, rfl, s, _, 2, _, rfl, rfl, SqL.of (hs2 _), rfl, _, _, rfl, rfl, (.inl ⟨by omega, by omega⟩), _, _, rfl, rfl, (show (2147483629 : Int) ≠ 0 by decide), _, _, rfl, rfl, wide_div (b := 5) (by decide) (by decide) (by decide) (by decide), _, rfl, _, _, rfl, rfl, (by omega), ?_⟩
      obtain ⟨r0, r1⟩ := fmod_lt (a := (((qq * qq).fmod 2147483629) / 16)) m0
      refine out _ (fun a o h n1 n2 => by rw [upd_ne n1, upd_ne n1]; exact h) (fun s' c' e => ?_) _ r0 r1
      have e := hS.symm.trans e
      cases e
      exact ⟨ne, p + 1, qq, ns, hs2 _, by rw [upd_ne ne.symm, upd_ne ne.symm]; exact hc, h1, h2, h3, by omega, q2, q3⟩
end TC

set_option Elab.async false
set_option linter.all false
set_option maxRecDepth 100000
set_option maxHeartbeats 2000000
/-! Orders, times, signs, cycles: what the defs are to do. -/
namespace TC
open PySem PySem.Spec PyProof.Rows L2
def powL (a : List Int) : Nat → List Int
  | 0 => rgL a.length
  | k + 1 => putL (powL a k) a
def ordL (a : List Int) : Nat := ([1, 2, 3, 4, 5, 6].find? fun k => decide (powL a k = rgL a.length)).getD 0
def signIn (a : List Int) (h : Int) : List Int → Int → Int
  | [], t => t
  | l :: ls, t => signIn a h ls (if a.getD h.toNat 0 < a.getD l.toNat 0 then -t else t)
def signOut (a : List Int) : List Int → Int → Int
  | [], t => t
  | h :: hs, t => signOut a hs (signIn a h (rgL h.toNat) t)
def signL (a : List Int) : Int := signOut a (rgL a.length) 1
def cycIn (a : List Int) : Nat → List Int → List Int → Int → List Int × List Int
  | 0, seen, row, _ => (seen, row)
  | m + 1, seen, row, at_ => if seen.contains at_ = true then (seen, row) else cycIn a m (seen ++ [at_]) (row ++ [at_]) (a.getD at_.toNat 0)
def cycOut (a : List Int) : List Int → List Int → List (List Int) → List (List Int)
  | [], _, found => found
  | s :: ss, seen, found => cycOut a ss (cycIn a a.length seen [] s).1 (if (cycIn a a.length seen [] s).2 = [] then found else found ++ [(cycIn a a.length seen [] s).2])
def cycL (a : List Int) : List (List Int) := cycOut a (rgL a.length) [] []
def rowD (r : List Int) : D := .lst (r.map D.int)
def cycD (c : List (List Int)) : D := .lst (c.map rowD)
def ledIn (row : List Int) (n : Int) : List Int → List Int → List Int
  | [], f => f
  | k :: ks, f => ledIn row n ks (f.set (row.getD k.toNat 0).toNat (row.getD ((k + n).fmod row.length).toNat 0))
def ledOut (n : Int) : List (List Int) → List Int → List Int
  | [], f => f
  | row :: rows, f => ledOut n rows (ledIn row n (rgL row.length) f)
def ledL (c : List (List Int)) (size : Nat) (n : Int) : List Int := ledOut n c (List.replicate size 0)
def cycOk (c : List (List Int)) (size : Nat) : Bool := decide (c.length ≤ 5) && c.all fun r => decide (1 ≤ r.length ∧ r.length ≤ 5) && r.all fun x => decide (0 ≤ x ∧ x < size)
def rounds (c : List (List Int)) (n : Nat) : Bool := c.all fun r => decide (n % r.length = 0)
def sp_times (A : Adr) : SpD := fun ds R Z => ∃ (x : D) (n : Int), ds = [x, .int n] ∧ okT x = true ∧ (∀ a : List Int, x = tI a → tOk a = true → R (tI (powL a (n.fmod (ordL a)).toNat))) ∧ (sizeOf x = 0 → Z A.c_NoTurn)
def sp_order (A : Adr) : SpD := fun ds R Z => ∃ x : D, ds = [x] ∧ okT x = true ∧ (∀ a : List Int, x = tI a → tOk a = true → R (.int (ordL a : Nat))) ∧ (sizeOf x = 0 → Z A.c_NoTurn)
def sp_sign (A : Adr) : SpD := fun ds R Z => ∃ x : D, ds = [x] ∧ okT x = true ∧ (∀ a : List Int, x = tI a → tOk a = true → R (.int (signL a))) ∧ (sizeOf x = 0 → Z A.c_NoTurn)
def sp_law_whole (A : Adr) : SpD := fun ds R _ => ∃ i j : Int, ds = [.int i, .int j] ∧ R (.bl (decide (i = j)))
def sp_law_cycles (A : Adr) : SpD := fun ds R _ => ∃ a : List Int, ds = [tI a] ∧ tOk a = true ∧ R (cycD (cycL a))
def sp_law_led_on (A : Adr) : SpD := fun ds R _ => ∃ (c : List (List Int)) (size : Nat) (n : Int), ds = [cycD c, .int size, .int n] ∧ size ≤ 5 ∧ cycOk c size = true ∧ R (tI (ledL c size n))
def sp_law_comes_round (A : Adr) : SpD := fun ds R _ => ∃ (c : List (List Int)) (size n : Nat), ds = [cycD c] ∧ cycOk c size = true ∧ 1 ≤ n ∧ n ≤ 1000 ∧ rounds c n = true ∧ (∀ m, 1 ≤ m → m < n → rounds c m = false) ∧ R (.int n)
def sp_law_number (A : Adr) : SpD := fun ds R _ => ∃ r : Int, ds = [.st, .int r] ∧ 0 < r ∧ r ≤ 1000 ∧ ∀ i : Int, R (.int i)
end TC

set_option Elab.async false
set_option linter.all false
set_option maxRecDepth 100000
set_option maxHeartbeats 4000000
/-! the conditions of the defs, at the data level -/
namespace TC
open PySem PySem.Spec PyProof.Rows L2
def w_is_number (K : PySem.W.Frag) (A : Adr) : DS := (wSeq (wRet (wAndV (wCB (dIsi K) (wCons (wVar 0) (wCons (wC (.ty "int")) wNil))) (wNotV (wCB (dIsi K) (wCons (wVar 0) (wCons (wC (.ty "bool")) wNil))))))
  wNext)
def w_size_of (K : PySem.W.Frag) (A : Adr) : DS := (wSeq (wIf (wOr (wNot (wTest (wCB (dIsi K) (wCons (wVar 0) (wCons (wC (.ty "tuple")) wNil))))) (wTest (wBin (dIn true) (wCB dLen (wCons (wVar 0) wNil)) (wC d_SIZES))))
  (wSeq (wRet (wC (.int 0)))
  wNext)
  wNext)
  (wSeq (wIf (wNot (wTest (wCB dAllL (wCons (wLc (tfN 1) (wIt (wVar 0)) wYes (wCall 1 (sp_is_number A) (wCons (wVar 1) wNil)) [1]) wNil))))
  (wSeq (wRet (wC (.int 0)))
  wNext)
  wNext)
  (wSeq (wRet (wIte (wTest (wBin dEq (wCB dSorted (wCons (wVar 0) wNil)) (wRgs fLstR (wCons (wCB dLen (wCons (wVar 0) wNil)) wNil)))) (wCB dLen (wCons (wVar 0) wNil)) (wC (.int 0))))
  wNext)))
def w_need_size (K : PySem.W.Frag) (A : Adr) : DS := (wSeq (wIf (wOr (wNot (wTest (wCall 1 (sp_is_number A) (wCons (wVar 0) wNil)))) (wTest (wBin (dIn true) (wVar 0) (wC d_SIZES))))
  (wSeq (wRaise A.c_NoSize)
  wNext)
  wNext)
  wNext)
def w_need_turn (K : PySem.W.Frag) (A : Adr) : DS := (wSeq (wAsg 1 (wCall 1 (sp_size_of A) (wCons (wVar 0) wNil)))
  (wSeq (wIf (wTest (wBin dEq (wVar 1) (wC (.int 0))))
  (wSeq (wRaise A.c_NoTurn)
  wNext)
  wNext)
  (wSeq (wRet (wVar 1))
  wNext)))
def w_put (K : PySem.W.Frag) (A : Adr) : DS := (wSeq (wRet (wCB dTupOf (wCons (wLc (tfN 2) (wIt (wVar 1)) wYes (wBin dIx (wVar 0) (wVar 2)) [2]) wNil)))
  wNext)
def w_back (K : PySem.W.Frag) (A : Adr) : DS := (wSeq (wRet (wCB dTupOf (wCons (wLc (tfN 1) (wRng1 (wCons (wCB dLen (wCons (wVar 0) wNil)) wNil)) wYes (wMethT dTIdx (wVar 0) (wCons (wVar 1) wNil)) [1]) wNil)))
  wNext)
def w_plain (K : PySem.W.Frag) (A : Adr) : DS := (wSeq (wDrop (wCall 1 (sp_need_size A) (wCons (wVar 0) wNil)))
  (wSeq (wRet (wRgs fTupR (wCons (wVar 0) wNil)))
  wNext))
def w_into (K : PySem.W.Frag) (A : Adr) : DS := (wSeq (wIf (wTest (wBin dNe (wCall 1 (sp_need_turn A) (wCons (wVar 0) wNil)) (wCall 1 (sp_need_turn A) (wCons (wVar 1) wNil))))
  (wSeq (wRaise A.c_NoTurn)
  wNext)
  wNext)
  (wSeq (wRet (wCall 2 (sp_put A) (wCons (wVar 0) (wCons (wVar 1) wNil))))
  wNext))
def w_undone (K : PySem.W.Frag) (A : Adr) : DS := (wSeq (wDrop (wCall 1 (sp_need_turn A) (wCons (wVar 0) wNil)))
  (wSeq (wRet (wCall 1 (sp_back A) (wCons (wVar 0) wNil)))
  wNext))
def w_times (K : PySem.W.Frag) (A : Adr) : DS := (wSeq (wAsg 2 (wBin dMod (wVar 1) (wCall 1 (sp_order A) (wCons (wVar 0) wNil))))
  (wSeq (wAsg 3 (wCall 1 (sp_plain A) (wCons (wCB dLen (wCons (wVar 0) wNil)) wNil)))
  (wSeq (wFor (tfN 4) (wRng1 (wCons (wVar 2) wNil))
  (wSeq (wAsg 3 (wCall 2 (sp_put A) (wCons (wVar 3) (wCons (wVar 0) wNil))))
  wNext))
  (wSeq (wRet (wVar 3))
  wNext))))
def w_order (K : PySem.W.Frag) (A : Adr) : DS := (wSeq (wAsg 1 (wCall 1 (sp_plain A) (wCons (wCall 1 (sp_need_turn A) (wCons (wVar 0) wNil)) wNil)))
  (wSeq (wAsg 2 (wVar 0))
  (wSeq (wAsg 3 (wC (.int 1)))
  (wSeq (wWhile (wTest (wBin dNe (wVar 2) (wVar 1)))
  (wSeq (wAsg 2 (wCall 2 (sp_put A) (wCons (wVar 2) (wCons (wVar 0) wNil))))
  (wSeq (wAug 3 iAdd (wC (.int 1)))
  wNext)))
  (wSeq (wRet (wVar 3))
  wNext)))))
def w_sign (K : PySem.W.Frag) (A : Adr) : DS := (wSeq (wAsg 1 (wCall 1 (sp_need_turn A) (wCons (wVar 0) wNil)))
  (wSeq (wAsg 2 (wC (.int 1)))
  (wSeq (wFor (tfN 3) (wRng1 (wCons (wVar 1) wNil))
  (wSeq (wFor (tfN 4) (wRng1 (wCons (wVar 3) wNil))
  (wSeq (wIf (wTest (wBin dGt (wBin dIx (wVar 0) (wVar 4)) (wBin dIx (wVar 0) (wVar 3))))
  (wSeq (wAsg 2 (wNeg (wVar 2)))
  wNext)
  wNext)
  wNext))
  wNext))
  (wSeq (wRet (wVar 2))
  wNext))))
def w_law_state (K : PySem.W.Frag) (A : Adr) : DS := (wSeq (wRet (wLst (wCons (wOrL (wLc (tfN 1) (wIt (wSl (wVar 0) wNoP (wPt (wC (.int 63))))) wYes (wCB dAbs (wCons (wVar 1) wNil)) [1]) (wLst (wCons (wC (.int 7)) wNil))) (wCons (wC (.int 0)) (wCons (wC (.int 1)) wNil)))))
  wNext)
def w_law_pick (K : PySem.W.Frag) (A : Adr) : DS := (wSeq (wRet (wBin dIx (wVar 1) (wCall 2 (sp_law_draw A) (wCons (wVar 0) (wCons (wCB dLen (wCons (wVar 1) wNil)) wNil)))))
  wNext)
def w_law_mixed (K : PySem.W.Frag) (A : Adr) : DS := (wSeq (wPar 2 3 (wCons (wCB dLstOfM (wCons (wVar 1) wNil)) (wCons (wLstM wNil) wNil)))
  (wSeq (wWhile (wTest (wBin dNe (wVar 2) (wLst wNil)))
  (wSeq (wDrop (wMeth dAppend (wVar 3) (wCons (wMeth dPopAt (wVar 2) (wCons (wCall 2 (sp_law_draw A) (wCons (wVar 0) (wCons (wCB dLen (wCons (wVar 2) wNil)) wNil))) wNil)) wNil)))
  wNext))
  (wSeq (wRet (wFrz (wVar 3)))
  wNext)))
def w_law_a_turn (K : PySem.W.Frag) (A : Adr) : DS := (wSeq (wAsg 2 (wCall 2 (sp_law_draw A) (wCons (wVar 0) (wCons (wC (.int 5)) wNil))))
  (wSeq (wIf (wTest (wBin dEq (wVar 2) (wC (.int 0))))
  (wSeq (wRet (wRgs fTupR (wCons (wVar 1) wNil)))
  wNext)
  wNext)
  (wSeq (wIf (wTest (wBin dEq (wVar 2) (wC (.int 1))))
  (wSeq (wAsg 3 (wCall 2 (sp_law_draw A) (wCons (wVar 0) (wCons (wBin dSub (wVar 1) (wC (.int 1))) wNil))))
  (wSeq (wRet (wBin dAdd (wBin dAdd (wRgs fTupR (wCons (wVar 3) wNil)) (wTup (wCons (wBin dAdd (wVar 3) (wC (.int 1))) (wCons (wVar 3) wNil)))) (wRgs fTupR (wCons (wBin dAdd (wVar 3) (wC (.int 2))) (wCons (wVar 1) wNil)))))
  wNext))
  wNext)
  (wSeq (wRet (wCB dTupOf (wCons (wCall 2 (sp_law_mixed A) (wCons (wVar 0) (wCons (wRgs fLstR (wCons (wVar 1) wNil)) wNil))) wNil)))
  wNext))))
def w_law_exact (K : PySem.W.Frag) (A : Adr) : DS := (wSeq (wIf (wOr (wNot (wTest (wCB (dIsi K) (wCons (wVar 0) (wCons (wC (.ty "tuple")) wNil))))) (wTest (wBin dNe (wVar 0) (wVar 1))))
  (wSeq (wRet (wC (.bl false)))
  wNext)
  wNext)
  (wSeq (wRet (wBin dEq (wLc (tfN 2) (wIt (wVar 0)) (wOr (wTest (wCB (dIsi K) (wCons (wVar 2) (wCons (wC (.ty "bool")) wNil)))) (wNot (wTest (wCB (dIsi K) (wCons (wVar 2) (wCons (wC (.ty "int")) wNil)))))) (wVar 2) [2]) (wLst wNil)))
  wNext))
def w_law_whole (K : PySem.W.Frag) (A : Adr) : DS := (wSeq (wRet (wAndV (wCB (dIsi K) (wCons (wVar 0) (wCons (wC (.ty "int")) wNil))) (wAndV (wNotV (wCB (dIsi K) (wCons (wVar 0) (wCons (wC (.ty "bool")) wNil)))) (wBin dEq (wVar 0) (wVar 1)))))
  wNext)
def w_law_cycles (K : PySem.W.Frag) (A : Adr) : DS := (wSeq (wPar 2 3 (wCons (wLstM wNil) (wCons (wLstM wNil) wNil)))
  (wSeq (wFor (tfN 1) (wRng1 (wCons (wCB dLen (wCons (wVar 0) wNil)) wNil))
  (wSeq (wPar 4 5 (wCons (wLstM wNil) (wCons (wVar 1) wNil)))
  (wSeq (wWhile (wTest (wBin (dIn true) (wVar 5) (wVar 3)))
  (wSeq (wDrop (wMeth dAppend (wVar 3) (wCons (wVar 5) wNil)))
  (wSeq (wDrop (wMeth dAppend (wVar 4) (wCons (wVar 5) wNil)))
  (wSeq (wAsg 5 (wBin dIx (wVar 0) (wVar 5)))
  wNext))))
  (wSeq (wIf (wTest (wBin dNe (wVar 4) (wLst wNil)))
  (wSeq (wDrop (wMeth dAppend (wVar 2) (wCons (wFrz (wVar 4)) wNil)))
  wNext)
  wNext)
  wNext))))
  (wSeq (wRet (wFrz (wVar 2)))
  wNext)))
def w_law_led_on (K : PySem.W.Frag) (A : Adr) : DS := (wSeq (wAsg 3 (wBin dMulM (wLst (wCons (wC (.int 0)) wNil)) (wVar 1)))
  (wSeq (wFor (tfN 4) (wIt (wVar 0))
  (wSeq (wFor (tfN 5) (wRng1 (wCons (wCB dLen (wCons (wVar 4) wNil)) wNil))
  (wSeq (wSetL (wVar 3) (wBin dIx (wVar 4) (wVar 5)) (wBin dIx (wVar 4) (wBin dMod (wBin dAdd (wVar 5) (wVar 2)) (wCB dLen (wCons (wVar 4) wNil)))))
  wNext))
  wNext))
  (wSeq (wRet (wCB dTupOf (wCons (wVar 3) wNil)))
  wNext)))
def w_law_comes_round (K : PySem.W.Frag) (A : Adr) : DS := (wSeq (wAsg 1 (wC (.int 1)))
  (wSeq (wWhile (wTest (wBin dNe (wLc (tfN 2) (wIt (wVar 0)) (wTest (wBin dNe (wBin dMod (wVar 1) (wCB dLen (wCons (wVar 2) wNil))) (wC (.int 0)))) (wVar 2) [2]) (wLst wNil)))
  (wSeq (wAsg 1 (wBin dAdd (wVar 1) (wC (.int 1))))
  wNext))
  (wSeq (wRet (wVar 1))
  wNext)))
def w_law_number (K : PySem.W.Frag) (A : Adr) : DS := (wSeq (wAsg 2 (wLst (wCons (wBin dSub (wCall 2 (sp_law_draw A) (wCons (wVar 0) (wCons (wC (.int 14)) wNil))) (wC (.int 3))) (wCons (wVar 1) (wCons (wBin dMul (wVar 1) (wBin dSub (wCall 2 (sp_law_draw A) (wCons (wVar 0) (wCons (wC (.int 40)) wNil))) (wC (.int 20)))) (wCons (wBin dSub (wVar 1) (wC (.int 1))) wNil))))))
  (wSeq (wRet (wCall 2 (sp_law_pick A) (wCons (wVar 0) (wCons (wBin dAdd (wVar 2) (wLst (wCons (wCall 2 (sp_law_draw A) (wCons (wVar 0) (wCons (wBin dPow (wC (.int 10)) (wC (.int 30))) wNil))) (wCons (wBin dSub (wC (.int 0)) (wCall 2 (sp_law_draw A) (wCons (wVar 0) (wCons (wBin dPow (wC (.int 10)) (wC (.int 30))) wNil)))) (wCons (wC (.int 0)) (wCons (wNeg (wC (.int 1))) wNil)))))) wNil))))
  wNext))
def w_law (K : PySem.W.Frag) (A : Adr) : DS := (wSeq (wFor (tfN 2) (wRng1 (wCons (wC (.int 6)) wNil))
  (wSeq (wAsg 3 (wBin dAdd (wC (.int 2)) (wCall 2 (sp_law_draw A) (wCons (wVar 1) (wCons (wC (.int 4)) wNil)))))
  (wSeq (wPar 7 8 (wCons (wCall 2 (sp_law_a_turn A) (wCons (wVar 1) (wCons (wVar 3) wNil))) (wCons (wCall 2 (sp_law_a_turn A) (wCons (wVar 1) (wCons (wVar 3) wNil))) wNil)))
  (wSeq (wAsg 4 (wCall 1 (sp_law_cycles A) (wCons (wVar 7) wNil)))
  (wSeq (wPar 9 10 (wCons (wCall 1 (sp_law_comes_round A) (wCons (wVar 4) wNil)) (wCons (wCB dLen (wCons (wLc (tfN 13) (wIt (wVar 4)) (wTest (wBin dEq (wBin dMod (wCB dLen (wCons (wVar 13) wNil)) (wC (.int 2))) (wC (.int 0)))) (wVar 13) [13]) wNil)) wNil)))
  (wSeq (wIf (wOr (wNot (wTest (wCall 2 (sp_law_whole A) (wCons (wCall 1 (sp_order A) (wCons (wVar 7) wNil)) (wCons (wVar 9) wNil))))) (wNot (wTest (wCall 2 (sp_law_whole A) (wCons (wCall 1 (sp_sign A) (wCons (wVar 7) wNil)) (wCons (wBin dSub (wC (.int 1)) (wBin dMul (wC (.int 2)) (wBin dMod (wVar 10) (wC (.int 2))))) wNil))))))
  (wSeq (wRet (wC (.bl false)))
  wNext)
  wNext)
  (wSeq (wPar 11 12 (wCons (wCall 2 (sp_law_number A) (wCons (wVar 1) (wCons (wVar 9) wNil))) (wCons (wCall 2 (sp_law_number A) (wCons (wVar 1) (wCons (wVar 9) wNil))) wNil)))
  (wSeq (wFor (tfN 5) (wIt (wTup (wCons (wVar 11) (wCons (wVar 12) (wCons (wBin dAdd (wVar 11) (wVar 12)) (wCons (wBin dSub (wC (.int 0)) (wVar 11)) (wCons (wC (.int 0)) (wCons (wC (.int 1)) (wCons (wVar 9) (wCons (wBin dAdd (wVar 9) (wC (.int 1))) wNil))))))))))
  (wSeq (wIf (wNot (wTest (wCall 2 (sp_law_exact A) (wCons (wCall 2 (sp_times A) (wCons (wVar 7) (wCons (wVar 5) wNil))) (wCons (wCall 3 (sp_law_led_on A) (wCons (wVar 4) (wCons (wVar 3) (wCons (wVar 5) wNil)))) wNil)))))
  (wSeq (wRet (wC (.bl false)))
  wNext)
  wNext)
  wNext))
  (wSeq (wIf (wOr (wTest (wBin dNe (wCall 2 (sp_into A) (wCons (wCall 2 (sp_times A) (wCons (wVar 7) (wCons (wVar 11) wNil))) (wCons (wCall 2 (sp_times A) (wCons (wVar 7) (wCons (wVar 12) wNil))) wNil))) (wCall 2 (sp_times A) (wCons (wVar 7) (wCons (wBin dAdd (wVar 11) (wVar 12)) wNil))))) (wTest (wBin dNe (wCall 2 (sp_times A) (wCons (wVar 7) (wCons (wNeg (wC (.int 1))) wNil))) (wCall 1 (sp_undone A) (wCons (wVar 7) wNil)))))
  (wSeq (wRet (wC (.bl false)))
  wNext)
  wNext)
  (wSeq (wIf (wOr (wTest (wBin dNe (wCall 2 (sp_times A) (wCons (wVar 7) (wCons (wVar 9) wNil))) (wCall 1 (sp_plain A) (wCons (wVar 3) wNil)))) (wTest (wBin dNe (wCall 1 (sp_sign A) (wCons (wCall 2 (sp_into A) (wCons (wVar 7) (wCons (wVar 8) wNil))) wNil)) (wBin dMul (wCall 1 (sp_sign A) (wCons (wVar 7) wNil)) (wCall 1 (sp_sign A) (wCons (wVar 8) wNil))))))
  (wSeq (wRet (wC (.bl false)))
  wNext)
  wNext)
  (wSeq (wAsg 6 (wCall 2 (sp_into A) (wCons (wCall 2 (sp_into A) (wCons (wVar 8) (wCons (wVar 7) wNil))) (wCons (wCall 1 (sp_undone A) (wCons (wVar 8) wNil)) wNil))))
  (wSeq (wIf (wOr (wTest (wBin dNe (wCall 1 (sp_order A) (wCons (wVar 6) wNil)) (wVar 9))) (wOr (wTest (wBin dNe (wCall 1 (sp_sign A) (wCons (wVar 6) wNil)) (wCall 1 (sp_sign A) (wCons (wVar 7) wNil)))) (wTest (wBin dNe (wCall 1 (sp_sign A) (wCons (wCall 1 (sp_undone A) (wCons (wVar 8) wNil)) wNil)) (wCall 1 (sp_sign A) (wCons (wVar 8) wNil))))))
  (wSeq (wRet (wC (.bl false)))
  wNext)
  wNext)
  wNext))))))))))))
  (wSeq (wRet (wC (.bl true)))
  wNext))
end TC

set_option Elab.async false
set_option linter.all false
set_option maxRecDepth 100000
set_option maxHeartbeats 2000000
/-! The data-level conditions hold. -/
namespace TC
open PySem PySem.Spec PyProof.Rows L2
abbrev Pt (R : D → Prop) (Z : Addr → Prop) : Post := ⟨fun _ _ => R .non, fun d _ => d.pure = true ∧ R d, fun _ _ => False, fun _ _ => False, fun cl _ _ => Z cl⟩
theorem pures_all : ∀ ds : List D, pures ds = ds.all D.pure
  | [] => rfl
  | d :: ds => by
    show (d.pure && pures ds) = (d.pure && ds.all D.pure)
    rw [pures_all ds]
theorem pures_of {ds : List D} (h : ∀ d ∈ ds, d.pure = true) : pures ds = true := by
  rw [pures_all, List.all_eq_true]
  exact h
theorem pures_mem {ds : List D} (h : pures ds = true) : ∀ d ∈ ds, d.pure = true := by
  rw [pures_all, List.all_eq_true] at h
  exact h
theorem pures_ints (ns : List Int) : pures (ns.map D.int) = true := pures_of fun d h => by
  obtain ⟨n, _, rfl⟩ := List.mem_map.mp h
  rfl
theorem pure_tI (ns : List Int) : (tI ns).pure = true := pures_ints ns
theorem wLcL_ok {j : Nat} {wt : DT} {we : DX} {Γ : Gam} {μ : Mem} {R : List D → Mem → Prop} (g : D → D) (c : D → Bool) : ∀ (ds acc : List D),
    (∀ x ∈ ds, ∀ μ' (Q : Bool → Mem → Prop), Q (c x) μ' → wt (Γ.set j (some x)) μ' Q Z0) → (∀ x ∈ ds, c x = true → (g x).pure = true ∧ ∀ μ' (Q : RD), Q (g x) μ' → we (Γ.set j (some x)) μ' Q Z0) →
    R (acc ++ (ds.filter c).map g) μ → wLcL (tfN j) wt we ds acc Γ μ R
  | [], acc, _, _, r => by
    simp only [List.filter_nil, List.map_nil, List.append_nil] at r
    exact r
  | x :: xs, acc, ht, he, r => by
    show wt (Γ.set j (some x)) (μ ++ [Cell.lst acc]) _ Z0
    refine ht x (List.mem_cons_self ..) _ _ ⟨rfl, ?_⟩
    have ht' := fun y (h : y ∈ xs) => ht y (List.mem_cons_of_mem _ h)
    have he' := fun y (h : y ∈ xs) => he y (List.mem_cons_of_mem _ h)
    cases hc : c x with
    | false =>
      rw [if_neg (by decide)]
      refine wLcL_ok g c xs acc ht' he' ?_
      rw [List.filter_cons_of_neg (by rw [hc]; decide)] at r
      exact r
    | true =>
      rw [if_pos rfl]
      obtain ⟨p, h⟩ := he x (List.mem_cons_self ..) hc
      refine h _ _ ⟨rfl, p, wLcL_ok g c xs (acc ++ [g x]) ht' he' ?_⟩
      rw [List.filter_cons_of_pos hc, List.map_cons] at r
      rw [List.append_assoc]
      exact r
theorem wLcL_map {j : Nat} {we : DX} {Γ : Gam} {μ : Mem} {R : List D → Mem → Prop} (g : D → D) (ds : List D)
    (he : ∀ x ∈ ds, (g x).pure = true ∧ ∀ μ' (Q : RD), Q (g x) μ' → we (Γ.set j (some x)) μ' Q Z0) (r : R (ds.map g) μ) : wLcL (tfN j) wYes we ds [] Γ μ R :=
  wLcL_ok g (fun _ => true) ds [] (fun x _ μ' Q h => h) (fun x h _ => he x h) (by
    rw [List.filter_eq_self.mpr (fun _ _ => rfl)]
    exact r)
theorem wLcL_filter {j : Nat} {wt : DT} {we : DX} {Γ : Gam} {μ : Mem} {R : List D → Mem → Prop} (c : D → Bool) (ds : List D)
    (ht : ∀ x ∈ ds, ∀ μ' (Q : Bool → Mem → Prop), Q (c x) μ' → wt (Γ.set j (some x)) μ' Q Z0) (he : ∀ x ∈ ds, c x = true → x.pure = true ∧ ∀ μ' (Q : RD), Q x μ' → we (Γ.set j (some x)) μ' Q Z0) (r : R (ds.filter c) μ) : wLcL (tfN j) wt we ds [] Γ μ R :=
  wLcL_ok id c ds [] ht (fun x h hc => he x h hc) (by
    rw [List.map_id]
    exact r)
theorem okD_pure {x : D} (h : okD x = true) : x.pure = true := by
  unfold okD at h
  rw [Bool.and_eq_true] at h
  exact h.2
theorem okT_D {x : D} (h : okT x = true) : okD x = true := by
  unfold okT at h
  rw [Bool.and_eq_true] at h
  exact h.1
theorem okT_pure {x : D} (h : okT x = true) : x.pure = true := okD_pure (okT_D h)
theorem okT_tup {ds : List D} (h : okT (.tup ds) = true) : (∀ d ∈ ds, okD d = true) ∧ ds.length ≤ 1000 := by
  unfold okT at h
  rw [Bool.and_eq_true] at h
  have h := h.2
  rw [Bool.and_eq_true, List.all_eq_true] at h
  exact ⟨h.1, of_decide_eq_true h.2⟩

theorem pure_is_number (K : PySem.W.Frag) (A : Adr) (ds : List D) (R : D → Prop) (Z : Addr → Prop) (hl : ds.length = 1) (h : sp_is_number A ds R Z) : w_is_number K A (gam0 1 ds) [] (Pt R Z) := by
  obtain ⟨x, rfl, ok, r⟩ := h
  cases x <;> first | (cases ok; done) | skip
  all_goals simp only [w_is_number, wSeq, wNext, wRet, wDrop, wAsg, wPar, wIf, wBrk, wCnt, wRaise, wIte, wAndV, wOrV, wNotV, wNeg, wAnd, wOr, wNot, wTest, wCB, wCons, wNil, wVar, wC, wBin, wTup, wLst, wLstM, wFrz, wIsN, wOrL, wDict0, wIt, wRng1, wRng2, wMeth, wMethT, wNoP, wPt, wSl, wRev, wRgs, fTupR, fLstR, fLstRM, rgM, wCall, wYes, bOf, gam0, List.map_cons, List.map_nil, List.length_cons, List.length_nil, List.replicate, List.cons_append, List.nil_append, List.append_nil, List.getElem?_cons_zero, List.getElem?_cons_succ, List.set_cons_zero, List.set_cons_succ, Nat.add_sub_cancel, Nat.sub_self, Nat.sub_zero, Nat.reduceAdd, Nat.reduceSub, Nat.zero_add, if_true, if_false, Bool.false_eq_true, Bool.not_true, Bool.not_false, true_and, and_true, pures, D.pure, Bool.and_true, Bool.true_and]
  all_goals simp [dIsi, res, tyN, isi]
  all_goals exact r
theorem pure_size_of (K : PySem.W.Frag) (A : Adr) (ds : List D) (R : D → Prop) (Z : Addr → Prop) (hl : ds.length = 1) (h : sp_size_of A ds R Z) : w_size_of K A (gam0 2 ds) [] (Pt R Z) := by
  obtain ⟨x, rfl, ok, r⟩ := h
  cases x with
  | tup ds =>
    obtain ⟨ok1, ok2⟩ := okT_tup ok
    have e1 := in_sizes (ds.length : Int)
    have e2 : (([.int 2, .int 3, .int 4, .int 5] : List D).all flatD) = true := rfl
    simp only [w_size_of, wSeq, wNext, wRet, wDrop, wAsg, wPar, wIf, wBrk, wCnt, wRaise, wIte, wAndV, wOrV, wNotV, wNeg, wAnd, wOr, wNot, wTest, wCB, wCons, wNil, wVar, wC, wBin, wTup, wLst, wLstM, wFrz, wIsN, wOrL, wDict0, wIt, wRng1, wRng2, wMeth, wMethT, wNoP, wPt, wSl, wRev, wRgs, fTupR, fLstR, fLstRM, rgM, wCall, wYes, bOf, gam0, List.map_cons, List.map_nil, List.length_cons, List.length_nil, List.replicate, List.cons_append, List.nil_append, List.append_nil, List.getElem?_cons_zero, List.getElem?_cons_succ, List.set_cons_zero, List.set_cons_succ, Nat.add_sub_cancel, Nat.sub_self, Nat.sub_zero, Nat.reduceAdd, Nat.reduceSub, Nat.zero_add, if_true, if_false, Bool.false_eq_true, Bool.not_true, Bool.not_false, true_and, and_true, pures, D.pure, Bool.and_true, Bool.true_and, dIsi, res, tyN, isi, dLen, items, dIn, d_SIZES, e1, e2]
    simp only [flatD, List.contains_cons, beq_self_eq_true, Bool.or_true, Bool.true_or, and_self, true_and]
    rw [if_neg (by decide)]
    have small : ¬ (2 ≤ (ds.length : Int) ∧ (ds.length : Int) ≤ 5) → sizeOf (.tup ds) = 0 := fun hs => by
      by_cases h0 : sizeOf (.tup ds) = 0
      · exact h0
      · obtain ⟨ns, e, ht, _⟩ := sizeOf_turn h0
        cases e
        have := (tOk_iff.mp ht).1
        rw [List.length_map] at hs
        exact absurd (by omega) hs
    by_cases hs : 2 ≤ (ds.length : Int) ∧ (ds.length : Int) ≤ 5
    · rw [decide_eq_true hs, if_neg (by decide)]
      simp only [wLc, wipeG, itemsI, wSeq, wNext, wRet, wDrop, wAsg, wPar, wIf, wBrk, wCnt, wRaise, wIte, wAndV, wOrV, wNotV, wNeg, wAnd, wOr, wNot, wTest, wCB, wCons, wNil, wVar, wC, wBin, wTup, wLst, wLstM, wFrz, wIsN, wOrL, wDict0, wIt, wRng1, wRng2, wMeth, wMethT, wNoP, wPt, wSl, wRev, wRgs, fTupR, fLstR, fLstRM, rgM, wCall, wYes, bOf, gam0, List.map_cons, List.map_nil, List.length_cons, List.length_nil, List.replicate, List.cons_append, List.nil_append, List.append_nil, List.getElem?_cons_zero, List.getElem?_cons_succ, List.set_cons_zero, List.set_cons_succ, Nat.add_sub_cancel, Nat.sub_self, Nat.sub_zero, Nat.reduceAdd, Nat.reduceSub, Nat.zero_add, if_true, if_false, Bool.false_eq_true, Bool.not_true, Bool.not_false, true_and, and_true, pures, D.pure, Bool.and_true, Bool.true_and]
      refine ⟨by unfold big; omega, wLcL_map (fun d => .bl (isNum d)) ds (fun x hx => ⟨rfl, fun μ' Q q => ?_⟩) ?_⟩
      · simp only [wSeq, wNext, wRet, wDrop, wAsg, wPar, wIf, wBrk, wCnt, wRaise, wIte, wAndV, wOrV, wNotV, wNeg, wAnd, wOr, wNot, wTest, wCB, wCons, wNil, wVar, wC, wBin, wTup, wLst, wLstM, wFrz, wIsN, wOrL, wDict0, wIt, wRng1, wRng2, wMeth, wMethT, wNoP, wPt, wSl, wRev, wRgs, fTupR, fLstR, fLstRM, rgM, wCall, wYes, bOf, gam0, List.map_cons, List.map_nil, List.length_cons, List.length_nil, List.replicate, List.cons_append, List.nil_append, List.append_nil, List.getElem?_cons_zero, List.getElem?_cons_succ, List.set_cons_zero, List.set_cons_succ, Nat.add_sub_cancel, Nat.sub_self, Nat.sub_zero, Nat.reduceAdd, Nat.reduceSub, Nat.zero_add, if_true, if_false, Bool.false_eq_true, Bool.not_true, Bool.not_false, true_and, and_true, pures, D.pure, Bool.and_true, Bool.true_and]
        exact ⟨okD_pure (ok1 x hx), x, rfl, ok1 x hx, q⟩
      · refine ⟨⟨ds.map isNum, by rw [List.map_map]; rfl, ?_⟩, fun ys e => by cases e⟩
        cases q : nums ds with
        | none =>
          rw [nums_none q]
          have e0 : sizeOf (.tup ds) = 0 := by
            show (match nums ds with | some ns => if tOk ns = true then ns.length else 0 | none => 0) = 0
            rw [q]
          rw [e0] at r
          exact r
        | some ns =>
          have e := nums_some q
          subst e
          rw [isNum_ints]
          rw [List.length_map] at hs ⊢
          have r : R (.int (sizeOf (tI ns) : Nat)) := r
          rw [sizeOf_tI] at r
          refine ⟨ns, rfl, by omega, fun ns' hp hsrt => ⟨by unfold rgOk; omega, ?_⟩⟩
          rw [rgD_rgL]
          refine ⟨⟨eqOk_lI _, eqOk_lI _⟩, ?_⟩
          show if deq (.lst (ns'.map D.int)) (.lst ((rgL ns.length).map D.int)) = true then _ else _
          rw [deq_lI, sorted_rg hp hsrt (by omega) (by omega)]
          by_cases ht : tOk ns = true
          · rw [if_pos ht]
            rw [if_pos ht] at r
            exact r
          · rw [if_neg ht]
            rw [if_neg ht] at r
            exact r
    · rw [decide_eq_false hs, if_pos (by decide)]
      rw [small hs] at r
      exact r
  | _ =>
    first | (cases ok; done) | skip
    all_goals simp only [w_size_of, wSeq, wNext, wRet, wDrop, wAsg, wPar, wIf, wBrk, wCnt, wRaise, wIte, wAndV, wOrV, wNotV, wNeg, wAnd, wOr, wNot, wTest, wCB, wCons, wNil, wVar, wC, wBin, wTup, wLst, wLstM, wFrz, wIsN, wOrL, wDict0, wIt, wRng1, wRng2, wMeth, wMethT, wNoP, wPt, wSl, wRev, wRgs, fTupR, fLstR, fLstRM, rgM, wCall, wYes, bOf, gam0, List.map_cons, List.map_nil, List.length_cons, List.length_nil, List.replicate, List.cons_append, List.nil_append, List.append_nil, List.getElem?_cons_zero, List.getElem?_cons_succ, List.set_cons_zero, List.set_cons_succ, Nat.add_sub_cancel, Nat.sub_self, Nat.sub_zero, Nat.reduceAdd, Nat.reduceSub, Nat.zero_add, if_true, if_false, Bool.false_eq_true, Bool.not_true, Bool.not_false, true_and, and_true, pures, D.pure, Bool.and_true, Bool.true_and]
    all_goals simp [dIsi, res, tyN, isi]
    all_goals exact r
theorem isSize_num {x : D} (h : isSize x = true) : ∃ n : Nat, x = .int n ∧ 2 ≤ n ∧ n ≤ 5 := by
  cases x with
  | int n =>
    have h := of_decide_eq_true h
    exact ⟨n.toNat, by rw [Int.toNat_of_nonneg (by omega)], by omega, by omega⟩
  | _ => cases h
theorem isSize_no {n : Int} (h : isSize (.int n) = false) : ¬ (2 ≤ n ∧ n ≤ 5) := of_decide_eq_false h
theorem pure_need_size (K : PySem.W.Frag) (A : Adr) (ds : List D) (R : D → Prop) (Z : Addr → Prop) (hl : ds.length = 1) (h : sp_need_size A ds R Z) : w_need_size K A (gam0 1 ds) [] (Pt R Z) := by
  obtain ⟨x, rfl, ok, r, z⟩ := h
  simp only [w_need_size, wSeq, wNext, wRet, wDrop, wAsg, wPar, wIf, wBrk, wCnt, wRaise, wIte, wAndV, wOrV, wNotV, wNeg, wAnd, wOr, wNot, wTest, wCB, wCons, wNil, wVar, wC, wBin, wTup, wLst, wLstM, wFrz, wIsN, wOrL, wDict0, wIt, wRng1, wRng2, wMeth, wMethT, wNoP, wPt, wSl, wRev, wRgs, fTupR, fLstR, fLstRM, rgM, wCall, wYes, bOf, gam0, List.map_cons, List.map_nil, List.length_cons, List.length_nil, List.replicate, List.cons_append, List.nil_append, List.append_nil, List.getElem?_cons_zero, List.getElem?_cons_succ, List.set_cons_zero, List.set_cons_succ, Nat.add_sub_cancel, Nat.sub_self, Nat.sub_zero, Nat.reduceAdd, Nat.reduceSub, Nat.zero_add, if_true, if_false, Bool.false_eq_true, Bool.not_true, Bool.not_false, true_and, and_true, pures, D.pure, Bool.and_true, Bool.true_and]
  refine ⟨okT_pure ok, x, rfl, okT_D ok, ?_⟩
  cases x with
  | int n =>
    have e1 := in_sizes n
    have e2 : (([.int 2, .int 3, .int 4, .int 5] : List D).all flatD) = true := rfl
    show if (!true) = true then _ else _
    rw [if_neg (by decide)]
    refine ⟨⟨rfl, rfl⟩, ?_⟩
    show if (!(([.int 2, .int 3, .int 4, .int 5] : List D).any fun z => deq z (.int n))) = true then _ else _
    rw [e1]
    by_cases hs : 2 ≤ n ∧ n ≤ 5
    · rw [decide_eq_true hs, if_neg (by decide)]
      exact r (decide_eq_true hs)
    · rw [decide_eq_false hs, if_pos (by decide)]
      exact z (decide_eq_false hs)
  | _ => exact z rfl
theorem pure_need_turn (K : PySem.W.Frag) (A : Adr) (ds : List D) (R : D → Prop) (Z : Addr → Prop) (hl : ds.length = 1) (h : sp_need_turn A ds R Z) : w_need_turn K A (gam0 2 ds) [] (Pt R Z) := by
  obtain ⟨x, rfl, ok, r, z⟩ := h
  simp only [w_need_turn, wSeq, wNext, wRet, wDrop, wAsg, wPar, wIf, wBrk, wCnt, wRaise, wIte, wAndV, wOrV, wNotV, wNeg, wAnd, wOr, wNot, wTest, wCB, wCons, wNil, wVar, wC, wBin, wTup, wLst, wLstM, wFrz, wIsN, wOrL, wDict0, wIt, wRng1, wRng2, wMeth, wMethT, wNoP, wPt, wSl, wRev, wRgs, fTupR, fLstR, fLstRM, rgM, wCall, wYes, bOf, gam0, List.map_cons, List.map_nil, List.length_cons, List.length_nil, List.replicate, List.cons_append, List.nil_append, List.append_nil, List.getElem?_cons_zero, List.getElem?_cons_succ, List.set_cons_zero, List.set_cons_succ, Nat.add_sub_cancel, Nat.sub_self, Nat.sub_zero, Nat.reduceAdd, Nat.reduceSub, Nat.zero_add, if_true, if_false, Bool.false_eq_true, Bool.not_true, Bool.not_false, true_and, and_true, pures, D.pure, Bool.and_true, Bool.true_and]
  refine ⟨okT_pure ok, x, rfl, ok, ?_⟩
  refine ⟨⟨eqOk_int _, eqOk_int _⟩, ?_⟩
  show if deq (.int _) (.int 0) = true then _ else _
  rw [deq_int]
  by_cases hs : sizeOf x = 0
  · rw [decide_eq_true (by omega), if_pos rfl]
    exact z hs
  · rw [decide_eq_false (by omega), if_neg (by decide)]
    exact ⟨rfl, r hs⟩
theorem atI_in {ds : List D} {i : Int} {d : D} (h0 : 0 ≤ i) (h : ds[i.toNat]? = some d) : atI ds i = some d := by
  have hl : i.toNat < ds.length := by
    rcases Nat.lt_or_ge i.toNat ds.length with h' | h'
    · exact h'
    · rw [List.getElem?_eq_none h'] at h
      cases h
  unfold atI ixN
  rw [if_pos h0, if_pos (by omega)]
  exact h
theorem getD_map {a : List Int} {k : Int} (h0 : 0 ≤ k) (h1 : k < a.length) : (a.map D.int)[k.toNat]? = some (.int (a.getD k.toNat 0)) := by
  have hl : k.toNat < a.length := by omega
  rw [List.getElem?_map, List.getD_eq_getElem?_getD, List.getElem?_eq_getElem hl]
  rfl
theorem pure_put (K : PySem.W.Frag) (A : Adr) (ds : List D) (R : D → Prop) (Z : Addr → Prop) (hl : ds.length = 2) (h : sp_put A ds R Z) : w_put K A (gam0 3 ds) [] (Pt R Z) := by
  obtain ⟨a, b, rfl, hb, hb1, r⟩ := h
  simp only [w_put, tI, wLc, wipeG, itemsI, wSeq, wNext, wRet, wDrop, wAsg, wPar, wIf, wBrk, wCnt, wRaise, wIte, wAndV, wOrV, wNotV, wNeg, wAnd, wOr, wNot, wTest, wCB, wCons, wNil, wVar, wC, wBin, wTup, wLst, wLstM, wFrz, wIsN, wOrL, wDict0, wIt, wRng1, wRng2, wMeth, wMethT, wNoP, wPt, wSl, wRev, wRgs, fTupR, fLstR, fLstRM, rgM, wCall, wYes, bOf, gam0, List.map_cons, List.map_nil, List.length_cons, List.length_nil, List.replicate, List.cons_append, List.nil_append, List.append_nil, List.getElem?_cons_zero, List.getElem?_cons_succ, List.set_cons_zero, List.set_cons_succ, Nat.add_sub_cancel, Nat.sub_self, Nat.sub_zero, Nat.reduceAdd, Nat.reduceSub, Nat.zero_add, if_true, if_false, Bool.false_eq_true, Bool.not_true, Bool.not_false, true_and, and_true, pures, D.pure, Bool.and_true, Bool.true_and]
  refine ⟨by rw [List.length_map]; unfold big; omega, wLcL_map (fun d => match d with | .int k => .int (a.getD k.toNat 0) | d => d) _ (fun x hx => ?_) ?_⟩
  · obtain ⟨k, hk, rfl⟩ := List.mem_map.mp hx
    refine ⟨rfl, fun μ' Q q => ?_⟩
    obtain ⟨h0, h1⟩ := hb k hk
    simp only [dIx, items, wSeq, wNext, wRet, wDrop, wAsg, wPar, wIf, wBrk, wCnt, wRaise, wIte, wAndV, wOrV, wNotV, wNeg, wAnd, wOr, wNot, wTest, wCB, wCons, wNil, wVar, wC, wBin, wTup, wLst, wLstM, wFrz, wIsN, wOrL, wDict0, wIt, wRng1, wRng2, wMeth, wMethT, wNoP, wPt, wSl, wRev, wRgs, fTupR, fLstR, fLstRM, rgM, wCall, wYes, bOf, gam0, List.map_cons, List.map_nil, List.length_cons, List.length_nil, List.replicate, List.cons_append, List.nil_append, List.append_nil, List.getElem?_cons_zero, List.getElem?_cons_succ, List.set_cons_zero, List.set_cons_succ, Nat.add_sub_cancel, Nat.sub_self, Nat.sub_zero, Nat.reduceAdd, Nat.reduceSub, Nat.zero_add, if_true, if_false, Bool.false_eq_true, Bool.not_true, Bool.not_false, true_and, and_true, pures, D.pure, Bool.and_true, Bool.true_and]
    rw [atI_in h0 (getD_map h0 h1)]
    exact q
  · have e : ((b.map D.int).map fun d => match d with | .int k => D.int (a.getD k.toNat 0) | d => d) = (putL a b).map D.int := by
      unfold putL
      rw [List.map_map, List.map_map]
      rfl
    rw [e]
    exact ⟨pures_ints _, r⟩
theorem pure_back (K : PySem.W.Frag) (A : Adr) (ds : List D) (R : D → Prop) (Z : Addr → Prop) (hl : ds.length = 1) (h : sp_back A ds R Z) : w_back K A (gam0 2 ds) [] (Pt R Z) := by
  obtain ⟨a, rfl, ha, ha1, r⟩ := h
  simp only [w_back, tI, wLc, wipeG, itemsI, dLen, items, List.length_map, wSeq, wNext, wRet, wDrop, wAsg, wPar, wIf, wBrk, wCnt, wRaise, wIte, wAndV, wOrV, wNotV, wNeg, wAnd, wOr, wNot, wTest, wCB, wCons, wNil, wVar, wC, wBin, wTup, wLst, wLstM, wFrz, wIsN, wOrL, wDict0, wIt, wRng1, wRng2, wMeth, wMethT, wNoP, wPt, wSl, wRev, wRgs, fTupR, fLstR, fLstRM, rgM, wCall, wYes, bOf, gam0, List.map_cons, List.map_nil, List.length_cons, List.length_nil, List.replicate, List.cons_append, List.nil_append, List.append_nil, List.getElem?_cons_zero, List.getElem?_cons_succ, List.set_cons_zero, List.set_cons_succ, Nat.add_sub_cancel, Nat.sub_self, Nat.sub_zero, Nat.reduceAdd, Nat.reduceSub, Nat.zero_add, if_true, if_false, Bool.false_eq_true, Bool.not_true, Bool.not_false, true_and, and_true, pures, D.pure, Bool.and_true, Bool.true_and]
  refine ⟨by unfold rgOk; omega, by rw [rgD_rgL, List.length_map, rgL_len]; unfold big; omega, wLcL_map (fun d => match d with | .int k => .int (a.idxOf k : Nat) | d => d) _ (fun x hx => ?_) ?_⟩
  · rw [rgD_rgL] at hx
    obtain ⟨k, hk, rfl⟩ := List.mem_map.mp hx
    refine ⟨rfl, fun μ' Q q => ?_⟩
    obtain ⟨h0, h1⟩ := rgL_mem.mp hk
    simp only [dIx, items, wSeq, wNext, wRet, wDrop, wAsg, wPar, wIf, wBrk, wCnt, wRaise, wIte, wAndV, wOrV, wNotV, wNeg, wAnd, wOr, wNot, wTest, wCB, wCons, wNil, wVar, wC, wBin, wTup, wLst, wLstM, wFrz, wIsN, wOrL, wDict0, wIt, wRng1, wRng2, wMeth, wMethT, wNoP, wPt, wSl, wRev, wRgs, fTupR, fLstR, fLstRM, rgM, wCall, wYes, bOf, gam0, List.map_cons, List.map_nil, List.length_cons, List.length_nil, List.replicate, List.cons_append, List.nil_append, List.append_nil, List.getElem?_cons_zero, List.getElem?_cons_succ, List.set_cons_zero, List.set_cons_succ, Nat.add_sub_cancel, Nat.sub_self, Nat.sub_zero, Nat.reduceAdd, Nat.reduceSub, Nat.zero_add, if_true, if_false, Bool.false_eq_true, Bool.not_true, Bool.not_false, true_and, and_true, pures, D.pure, Bool.and_true, Bool.true_and]
    refine ⟨a, rfl, ?_, q⟩
    have := ha k.toNat (by omega)
    rw [Int.toNat_of_nonneg h0] at this
    exact this
  · have e : ((rgD 0 a.length).map fun d => match d with | .int k => D.int (a.idxOf k : Nat) | d => d) = (backL a).map D.int := by
      unfold backL
      rw [rgD_rgL]
      unfold rgL
      rw [List.map_map, List.map_map, List.map_map]
      rfl
    rw [e]
    exact ⟨pures_ints _, r⟩
theorem pure_plain (K : PySem.W.Frag) (A : Adr) (ds : List D) (R : D → Prop) (Z : Addr → Prop) (hl : ds.length = 1) (h : sp_plain A ds R Z) : w_plain K A (gam0 1 ds) [] (Pt R Z) := by
  obtain ⟨y, rfl, oky, r, z⟩ := h
  simp only [w_plain, wSeq, wNext, wRet, wDrop, wAsg, wPar, wIf, wBrk, wCnt, wRaise, wIte, wAndV, wOrV, wNotV, wNeg, wAnd, wOr, wNot, wTest, wCB, wCons, wNil, wVar, wC, wBin, wTup, wLst, wLstM, wFrz, wIsN, wOrL, wDict0, wIt, wRng1, wRng2, wMeth, wMethT, wNoP, wPt, wSl, wRev, wRgs, fTupR, fLstR, fLstRM, rgM, wCall, wYes, bOf, gam0, List.map_cons, List.map_nil, List.length_cons, List.length_nil, List.replicate, List.cons_append, List.nil_append, List.append_nil, List.getElem?_cons_zero, List.getElem?_cons_succ, List.set_cons_zero, List.set_cons_succ, Nat.add_sub_cancel, Nat.sub_self, Nat.sub_zero, Nat.reduceAdd, Nat.reduceSub, Nat.zero_add, if_true, if_false, Bool.false_eq_true, Bool.not_true, Bool.not_false, true_and, and_true, pures, D.pure, Bool.and_true, Bool.true_and]
  refine ⟨okT_pure oky, y, rfl, oky, fun hs => ?_, z⟩
  obtain ⟨n, rfl, n2, n5⟩ := isSize_num hs
  refine ⟨by unfold rgOk; omega, ?_⟩
  rw [rgD_rgL]
  exact ⟨pures_ints _, r n rfl n2 n5⟩
theorem pure_into (K : PySem.W.Frag) (A : Adr) (ds : List D) (R : D → Prop) (Z : Addr → Prop) (hl : ds.length = 2) (h : sp_into A ds R Z) : w_into K A (gam0 2 ds) [] (Pt R Z) := by
  obtain ⟨x, y, rfl, okx, oky, r, z⟩ := h
  simp only [w_into, wSeq, wNext, wRet, wDrop, wAsg, wPar, wIf, wBrk, wCnt, wRaise, wIte, wAndV, wOrV, wNotV, wNeg, wAnd, wOr, wNot, wTest, wCB, wCons, wNil, wVar, wC, wBin, wTup, wLst, wLstM, wFrz, wIsN, wOrL, wDict0, wIt, wRng1, wRng2, wMeth, wMethT, wNoP, wPt, wSl, wRev, wRgs, fTupR, fLstR, fLstRM, rgM, wCall, wYes, bOf, gam0, List.map_cons, List.map_nil, List.length_cons, List.length_nil, List.replicate, List.cons_append, List.nil_append, List.append_nil, List.getElem?_cons_zero, List.getElem?_cons_succ, List.set_cons_zero, List.set_cons_succ, Nat.add_sub_cancel, Nat.sub_self, Nat.sub_zero, Nat.reduceAdd, Nat.reduceSub, Nat.zero_add, if_true, if_false, Bool.false_eq_true, Bool.not_true, Bool.not_false, true_and, and_true, pures, D.pure, Bool.and_true, Bool.true_and]
  refine ⟨okT_pure okx, x, rfl, okx, fun hx => ?_, fun hx => z fun h => h.1 hx⟩
  refine ⟨okT_pure oky, y, rfl, oky, fun hy => ?_, fun hy => z fun h => h.1 (h.2.trans hy)⟩
  refine ⟨⟨eqOk_int _, eqOk_int _⟩, ?_⟩
  show if (!deq (.int _) (.int _)) = true then _ else _
  rw [deq_int]
  by_cases e : sizeOf x = sizeOf y
  · rw [decide_eq_true (by omega), if_neg (by decide)]
    obtain ⟨a, rfl, ta, la⟩ := sizeOf_turn hx
    obtain ⟨b, rfl, tb, lb⟩ := sizeOf_turn hy
    refine ⟨by rw [pure_tI, pure_tI]; rfl, a, b, rfl, fun k hk => ?_, by have := (tOk_iff.mp tb).1; omega, pure_tI _, r a b rfl rfl ta tb (by omega)⟩
    have := tOk_mem tb hk
    omega
  · rw [decide_eq_false (by omega), if_pos (by decide)]
    exact z fun h => e h.2
theorem pure_undone (K : PySem.W.Frag) (A : Adr) (ds : List D) (R : D → Prop) (Z : Addr → Prop) (hl : ds.length = 1) (h : sp_undone A ds R Z) : w_undone K A (gam0 1 ds) [] (Pt R Z) := by
  obtain ⟨x, rfl, okx, r, z⟩ := h
  simp only [w_undone, wSeq, wNext, wRet, wDrop, wAsg, wPar, wIf, wBrk, wCnt, wRaise, wIte, wAndV, wOrV, wNotV, wNeg, wAnd, wOr, wNot, wTest, wCB, wCons, wNil, wVar, wC, wBin, wTup, wLst, wLstM, wFrz, wIsN, wOrL, wDict0, wIt, wRng1, wRng2, wMeth, wMethT, wNoP, wPt, wSl, wRev, wRgs, fTupR, fLstR, fLstRM, rgM, wCall, wYes, bOf, gam0, List.map_cons, List.map_nil, List.length_cons, List.length_nil, List.replicate, List.cons_append, List.nil_append, List.append_nil, List.getElem?_cons_zero, List.getElem?_cons_succ, List.set_cons_zero, List.set_cons_succ, Nat.add_sub_cancel, Nat.sub_self, Nat.sub_zero, Nat.reduceAdd, Nat.reduceSub, Nat.zero_add, if_true, if_false, Bool.false_eq_true, Bool.not_true, Bool.not_false, true_and, and_true, pures, D.pure, Bool.and_true, Bool.true_and]
  refine ⟨okT_pure okx, x, rfl, okx, fun hx => ?_, z⟩
  obtain ⟨a, rfl, ta, la⟩ := sizeOf_turn hx
  have := tOk_iff.mp ta
  exact ⟨pure_tI _, a, rfl, this.2, by omega, pure_tI _, r a rfl ta⟩
end TC

set_option Elab.async false
set_option linter.all false
set_option maxRecDepth 100000
set_option maxHeartbeats 2000000
namespace TC
open PySem PySem.Spec PyProof.Rows L2
theorem cutD_len {ds : List D} {lo hi : Option Int} : (cutD ds lo hi).length ≤ ds.length := by
  unfold cutD
  rw [List.length_take, List.length_drop]
  omega
theorem cutD_mem {ds : List D} {lo hi : Option Int} {d : D} (h : d ∈ cutD ds lo hi) : d ∈ ds := List.mem_of_mem_drop (List.mem_of_mem_take h)
theorem cutD_ints {ns : List Int} {lo hi : Option Int} : ∃ ms : List Int, cutD (ns.map D.int) lo hi = ms.map D.int := by
  unfold cutD
  exact ⟨(ns.drop _).take _, by rw [List.map_take, List.map_drop]⟩
theorem pure_law_state (K : PySem.W.Frag) (A : Adr) (ds : List D) (R : D → Prop) (Z : Addr → Prop) (hl : ds.length = 1) (h : sp_law_state A ds R Z) : w_law_state K A (gam0 2 ds) [] (Pt R Z) := by
  obtain ⟨ns, rfl, hn, r⟩ := h
  obtain ⟨ms, hm⟩ := cutD_ints (ns := ns) (lo := none) (hi := some 63)
  have hml : ms.length ≤ 63 := by
    have := cutD_len (ds := ns.map D.int) (lo := none) (hi := some 63)
    rw [hm, List.length_map, List.length_map] at this
    omega
  simp only [w_law_state, wLc, wipeG, itemsI, hm, wSeq, wNext, wRet, wDrop, wAsg, wPar, wIf, wBrk, wCnt, wRaise, wIte, wAndV, wOrV, wNotV, wNeg, wAnd, wOr, wNot, wTest, wCB, wCons, wNil, wVar, wC, wBin, wTup, wLst, wLstM, wFrz, wIsN, wOrL, wDict0, wIt, wRng1, wRng2, wMeth, wMethT, wNoP, wPt, wSl, wRev, wRgs, fTupR, fLstR, fLstRM, rgM, wCall, wYes, bOf, gam0, List.map_cons, List.map_nil, List.length_cons, List.length_nil, List.replicate, List.cons_append, List.nil_append, List.append_nil, List.getElem?_cons_zero, List.getElem?_cons_succ, List.set_cons_zero, List.set_cons_succ, Nat.add_sub_cancel, Nat.sub_self, Nat.sub_zero, Nat.reduceAdd, Nat.reduceSub, Nat.zero_add, if_true, if_false, Bool.false_eq_true, Bool.not_true, Bool.not_false, true_and, and_true, pures, D.pure, Bool.and_true, Bool.true_and]
  refine ⟨by rw [List.length_map]; unfold big; omega, wLcL_map (fun d => match d with | .int i => .int (if i < 0 then -i else i) | d => d) _ (fun x hx => ?_) ?_⟩
  · obtain ⟨k, hk, rfl⟩ := List.mem_map.mp hx
    exact ⟨rfl, fun μ' Q q => q⟩
  · have e : ((ms.map D.int).map fun d => match d with | .int i => D.int (if i < 0 then -i else i) | d => d) = (ms.map fun i => if i < 0 then -i else i).map D.int := by
      rw [List.map_map, List.map_map]
      rfl
    rw [e]
    have fin : ∀ cs : List Int, cs ≠ [] → cs.length ≤ 64 → (∀ c ∈ cs, 0 ≤ c) → 3 ≤ big ∧ (D.lst [.lst (cs.map D.int), .int 0, .int 1]).pure = true ∧ R (.lst [.lst (cs.map D.int), .int 0, .int 1]) := fun cs h1 h2 h3 => by
      refine ⟨by decide, ?_, r cs h1 h2 h3⟩
      show (pures (cs.map D.int) && true) = true
      rw [pures_ints]
      rfl
    by_cases he : (List.map D.int (ms.map fun i => if i < 0 then -i else i)).isEmpty = true
    · show if (List.map D.int (ms.map fun i => if i < 0 then -i else i)).isEmpty = true then _ else _
      rw [if_pos he]
      refine ⟨by decide, ?_⟩
      have := fin [7] (by simp) (by simp) (by simp)
      simp only [wSeq, wNext, wRet, wDrop, wAsg, wPar, wIf, wBrk, wCnt, wRaise, wIte, wAndV, wOrV, wNotV, wNeg, wAnd, wOr, wNot, wTest, wCB, wCons, wNil, wVar, wC, wBin, wTup, wLst, wLstM, wFrz, wIsN, wOrL, wDict0, wIt, wRng1, wRng2, wMeth, wMethT, wNoP, wPt, wSl, wRev, wRgs, fTupR, fLstR, fLstRM, rgM, wCall, wYes, bOf, gam0, List.map_cons, List.map_nil, List.length_cons, List.length_nil, List.replicate, List.cons_append, List.nil_append, List.append_nil, List.getElem?_cons_zero, List.getElem?_cons_succ, List.set_cons_zero, List.set_cons_succ, Nat.add_sub_cancel, Nat.sub_self, Nat.sub_zero, Nat.reduceAdd, Nat.reduceSub, Nat.zero_add, if_true, if_false, Bool.false_eq_true, Bool.not_true, Bool.not_false, true_and, and_true, pures, D.pure, Bool.and_true, Bool.true_and, D.pure, pures] at this ⊢
      exact this
    · show if (List.map D.int (ms.map fun i => if i < 0 then -i else i)).isEmpty = true then _ else _
      rw [if_neg he]
      have := fin (ms.map fun i => if i < 0 then -i else i) (fun q => he (by rw [q]; rfl)) (by rw [List.length_map]; omega) (fun c hc => by
        obtain ⟨i, _, rfl⟩ := List.mem_map.mp hc
        split <;> omega)
      simp only [wSeq, wNext, wRet, wDrop, wAsg, wPar, wIf, wBrk, wCnt, wRaise, wIte, wAndV, wOrV, wNotV, wNeg, wAnd, wOr, wNot, wTest, wCB, wCons, wNil, wVar, wC, wBin, wTup, wLst, wLstM, wFrz, wIsN, wOrL, wDict0, wIt, wRng1, wRng2, wMeth, wMethT, wNoP, wPt, wSl, wRev, wRgs, fTupR, fLstR, fLstRM, rgM, wCall, wYes, bOf, gam0, List.map_cons, List.map_nil, List.length_cons, List.length_nil, List.replicate, List.cons_append, List.nil_append, List.append_nil, List.getElem?_cons_zero, List.getElem?_cons_succ, List.set_cons_zero, List.set_cons_succ, Nat.add_sub_cancel, Nat.sub_self, Nat.sub_zero, Nat.reduceAdd, Nat.reduceSub, Nat.zero_add, if_true, if_false, Bool.false_eq_true, Bool.not_true, Bool.not_false, true_and, and_true, pures, D.pure, Bool.and_true, Bool.true_and, D.pure, pures] at this ⊢
      exact this
theorem pure_law_pick (K : PySem.W.Frag) (A : Adr) (ds : List D) (R : D → Prop) (Z : Addr → Prop) (hl : ds.length = 2) (h : sp_law_pick A ds R Z) : w_law_pick K A (gam0 2 ds) [] (Pt R Z) := by
  obtain ⟨xs, rfl, h1, h2, hp, r⟩ := h
  have hl : 0 < xs.length := List.length_pos_iff.mpr h1
  simp only [w_law_pick, dLen, items, dIx, wSeq, wNext, wRet, wDrop, wAsg, wPar, wIf, wBrk, wCnt, wRaise, wIte, wAndV, wOrV, wNotV, wNeg, wAnd, wOr, wNot, wTest, wCB, wCons, wNil, wVar, wC, wBin, wTup, wLst, wLstM, wFrz, wIsN, wOrL, wDict0, wIt, wRng1, wRng2, wMeth, wMethT, wNoP, wPt, wSl, wRev, wRgs, fTupR, fLstR, fLstRM, rgM, wCall, wYes, bOf, gam0, List.map_cons, List.map_nil, List.length_cons, List.length_nil, List.replicate, List.cons_append, List.nil_append, List.append_nil, List.getElem?_cons_zero, List.getElem?_cons_succ, List.set_cons_zero, List.set_cons_succ, Nat.add_sub_cancel, Nat.sub_self, Nat.sub_zero, Nat.reduceAdd, Nat.reduceSub, Nat.zero_add, if_true, if_false, Bool.false_eq_true, Bool.not_true, Bool.not_false, true_and, and_true, pures, D.pure, Bool.and_true, Bool.true_and]
  refine ⟨_, rfl, by omega, by omega, fun i i0 i1 => ?_⟩
  have hi : i.toNat < xs.length := by omega
  have hg : xs[i.toNat]? = some xs[i.toNat] := List.getElem?_eq_getElem hi
  have hm := List.mem_of_getElem? hg
  simp only [wSeq, wNext, wRet, wDrop, wAsg, wPar, wIf, wBrk, wCnt, wRaise, wIte, wAndV, wOrV, wNotV, wNeg, wAnd, wOr, wNot, wTest, wCB, wCons, wNil, wVar, wC, wBin, wTup, wLst, wLstM, wFrz, wIsN, wOrL, wDict0, wIt, wRng1, wRng2, wMeth, wMethT, wNoP, wPt, wSl, wRev, wRgs, fTupR, fLstR, fLstRM, rgM, wCall, wYes, bOf, gam0, List.map_cons, List.map_nil, List.length_cons, List.length_nil, List.replicate, List.cons_append, List.nil_append, List.append_nil, List.getElem?_cons_zero, List.getElem?_cons_succ, List.set_cons_zero, List.set_cons_succ, Nat.add_sub_cancel, Nat.sub_self, Nat.sub_zero, Nat.reduceAdd, Nat.reduceSub, Nat.zero_add, if_true, if_false, Bool.false_eq_true, Bool.not_true, Bool.not_false, true_and, and_true, pures, D.pure, Bool.and_true, Bool.true_and]
  rw [atI_in i0 hg]
  exact ⟨pures_mem hp _ hm, r _ hm⟩
theorem pure_law_mixed (K : PySem.W.Frag) (A : Adr) (ds : List D) (R : D → Prop) (Z : Addr → Prop) (hl : ds.length = 2) (h : sp_law_mixed A ds R Z) : w_law_mixed K A (gam0 4 ds) [] (Pt R Z) := by
  obtain ⟨ns, rfl, h2, r⟩ := h
  simp only [w_law_mixed, dLstOfM, items, wSeq, wNext, wRet, wDrop, wAsg, wPar, wIf, wBrk, wCnt, wRaise, wIte, wAndV, wOrV, wNotV, wNeg, wAnd, wOr, wNot, wTest, wCB, wCons, wNil, wVar, wC, wBin, wTup, wLst, wLstM, wFrz, wIsN, wOrL, wDict0, wIt, wRng1, wRng2, wMeth, wMethT, wNoP, wPt, wSl, wRev, wRgs, fTupR, fLstR, fLstRM, rgM, wCall, wYes, bOf, gam0, List.map_cons, List.map_nil, List.length_cons, List.length_nil, List.replicate, List.cons_append, List.nil_append, List.append_nil, List.getElem?_cons_zero, List.getElem?_cons_succ, List.set_cons_zero, List.set_cons_succ, Nat.add_sub_cancel, Nat.sub_self, Nat.sub_zero, Nat.reduceAdd, Nat.reduceSub, Nat.zero_add, if_true, if_false, Bool.false_eq_true, Bool.not_true, Bool.not_false, true_and, and_true, pures, D.pure, Bool.and_true, Bool.true_and]
  refine ⟨Nat.zero_le _, ?_⟩
  refine ⟨fun m Γ μ => ∃ ls rs : List Int, (ls ++ rs).Perm ns ∧ ls.length = m ∧ Γ = [some .st, some (.lst (ns.map D.int)), some (.mt 0), some (.mt 1)] ∧ μ = [.lst (ls.map D.int), .lst (rs.map D.int)], ns.length, ⟨ns, [], by rw [List.append_nil], rfl, rfl, rfl⟩, ?_⟩
  rintro m Γ μ ⟨ls, rs, hp, rfl, rfl, rfl⟩
  have hlen := hp.length_eq
  rw [List.length_append] at hlen
  simp only [dNe, res, cellD, wSeq, wNext, wRet, wDrop, wAsg, wPar, wIf, wBrk, wCnt, wRaise, wIte, wAndV, wOrV, wNotV, wNeg, wAnd, wOr, wNot, wTest, wCB, wCons, wNil, wVar, wC, wBin, wTup, wLst, wLstM, wFrz, wIsN, wOrL, wDict0, wIt, wRng1, wRng2, wMeth, wMethT, wNoP, wPt, wSl, wRev, wRgs, fTupR, fLstR, fLstRM, rgM, wCall, wYes, bOf, gam0, List.map_cons, List.map_nil, List.length_cons, List.length_nil, List.replicate, List.cons_append, List.nil_append, List.append_nil, List.getElem?_cons_zero, List.getElem?_cons_succ, List.set_cons_zero, List.set_cons_succ, Nat.add_sub_cancel, Nat.sub_self, Nat.sub_zero, Nat.reduceAdd, Nat.reduceSub, Nat.zero_add, if_true, if_false, Bool.false_eq_true, Bool.not_true, Bool.not_false, true_and, and_true, pures, D.pure, Bool.and_true, Bool.true_and]
  refine ⟨Nat.zero_le _, ⟨eqOk_lI ls, eqOk_lI []⟩, ?_⟩
  have e := deq_lI ls []
  simp only [List.map_nil] at e
  rw [e]
  by_cases hn : ls = []
  · subst hn
    rw [decide_eq_true rfl, if_neg (by decide)]
    simp only [fFrz, wSeq, wNext, wRet, wDrop, wAsg, wPar, wIf, wBrk, wCnt, wRaise, wIte, wAndV, wOrV, wNotV, wNeg, wAnd, wOr, wNot, wTest, wCB, wCons, wNil, wVar, wC, wBin, wTup, wLst, wLstM, wFrz, wIsN, wOrL, wDict0, wIt, wRng1, wRng2, wMeth, wMethT, wNoP, wPt, wSl, wRev, wRgs, fTupR, fLstR, fLstRM, rgM, wCall, wYes, bOf, gam0, List.map_cons, List.map_nil, List.length_cons, List.length_nil, List.replicate, List.cons_append, List.nil_append, List.append_nil, List.getElem?_cons_zero, List.getElem?_cons_succ, List.set_cons_zero, List.set_cons_succ, Nat.add_sub_cancel, Nat.sub_self, Nat.sub_zero, Nat.reduceAdd, Nat.reduceSub, Nat.zero_add, if_true, if_false, Bool.false_eq_true, Bool.not_true, Bool.not_false, true_and, and_true, pures, D.pure, Bool.and_true, Bool.true_and]
    exact ⟨pures_ints _, r rs hp⟩
  · rw [decide_eq_false hn, if_pos (by decide)]
    have hpos : 0 < ls.length := List.length_pos_iff.mpr hn
    refine ⟨rfl, rfl, ?_⟩
    simp only [dLen, items, wSeq, wNext, wRet, wDrop, wAsg, wPar, wIf, wBrk, wCnt, wRaise, wIte, wAndV, wOrV, wNotV, wNeg, wAnd, wOr, wNot, wTest, wCB, wCons, wNil, wVar, wC, wBin, wTup, wLst, wLstM, wFrz, wIsN, wOrL, wDict0, wIt, wRng1, wRng2, wMeth, wMethT, wNoP, wPt, wSl, wRev, wRgs, fTupR, fLstR, fLstRM, rgM, wCall, wYes, bOf, gam0, List.map_cons, List.map_nil, List.length_cons, List.length_nil, List.replicate, List.cons_append, List.nil_append, List.append_nil, List.getElem?_cons_zero, List.getElem?_cons_succ, List.set_cons_zero, List.set_cons_succ, Nat.add_sub_cancel, Nat.sub_self, Nat.sub_zero, Nat.reduceAdd, Nat.reduceSub, Nat.zero_add, if_true, if_false, Bool.false_eq_true, Bool.not_true, Bool.not_false, true_and, and_true, pures, D.pure, Bool.and_true, Bool.true_and]
    refine ⟨_, rfl, by rw [List.length_map]; omega, by rw [List.length_map]; omega, fun i i0 i1 => ?_⟩
    rw [List.length_map] at i1
    have hi : i.toNat < ls.length := by omega
    simp only [dPopAt, dAppend, wSeq, wNext, wRet, wDrop, wAsg, wPar, wIf, wBrk, wCnt, wRaise, wIte, wAndV, wOrV, wNotV, wNeg, wAnd, wOr, wNot, wTest, wCB, wCons, wNil, wVar, wC, wBin, wTup, wLst, wLstM, wFrz, wIsN, wOrL, wDict0, wIt, wRng1, wRng2, wMeth, wMethT, wNoP, wPt, wSl, wRev, wRgs, fTupR, fLstR, fLstRM, rgM, wCall, wYes, bOf, gam0, List.map_cons, List.map_nil, List.length_cons, List.length_nil, List.replicate, List.cons_append, List.nil_append, List.append_nil, List.getElem?_cons_zero, List.getElem?_cons_succ, List.set_cons_zero, List.set_cons_succ, Nat.add_sub_cancel, Nat.sub_self, Nat.sub_zero, Nat.reduceAdd, Nat.reduceSub, Nat.zero_add, if_true, if_false, Bool.false_eq_true, Bool.not_true, Bool.not_false, true_and, and_true, pures, D.pure, Bool.and_true, Bool.true_and]
    refine ⟨⟨i0, by omega⟩, .int ls[i.toNat], ?_, ?_⟩
    · rw [List.getElem?_map, List.getElem?_eq_getElem hi]
      rfl
    · refine ⟨by rw [List.length_map]; unfold big; omega, ls.length - 1, by omega, ls.eraseIdx i.toNat, rs ++ [ls[i.toNat]], ?_, ?_, ?_⟩
      · refine .trans ?_ hp
        have p1 : (ls.eraseIdx i.toNat ++ [ls[i.toNat]]).Perm ls := by
          rw [List.eraseIdx_eq_take_drop_succ]
          have e : ls = ls.take i.toNat ++ ls[i.toNat] :: ls.drop (i.toNat + 1) := by
            rw [← List.drop_eq_getElem_cons hi, List.take_append_drop]
          refine .trans ?_ (.of_eq e.symm)
          rw [List.append_assoc]
          exact .append_left _ (List.perm_append_singleton _ _)
        rw [← List.append_assoc]
        refine .trans ?_ (p1.append_right rs)
        rw [List.append_assoc, List.append_assoc]
        exact .append_left _ List.perm_append_comm
      · rw [List.length_eraseIdx, if_pos hi]
      · rw [List.map_append]
        have e : (ls.eraseIdx i.toNat).map D.int = (ls.map D.int).eraseIdx i.toNat := by
          simp [List.eraseIdx_eq_take_drop_succ, List.map_take, List.map_drop]
        rw [e]
        rfl
theorem rgI_tok : ∀ n ∈ [2, 3, 4, 5], ∀ at_ ∈ List.range n, at_ + 1 < n → tOk (rgL at_ ++ [(at_ : Int) + 1, (at_ : Int)] ++ (List.range (n - (at_ + 2))).map fun (k : Nat) => ((at_ : Int) + 2 + k)) = true ∧ (rgL at_ ++ [(at_ : Int) + 1, (at_ : Int)] ++ (List.range (n - (at_ + 2))).map fun (k : Nat) => ((at_ : Int) + 2 + k)).length = n := by decide
theorem rgD_ints {lo hi : Int} : rgD lo hi = ((List.range (hi - lo).toNat).map fun (k : Nat) => (lo + (k : Int))).map D.int := by
  unfold rgD
  rw [List.map_map]
  rfl
theorem pure_law_a_turn (K : PySem.W.Frag) (A : Adr) (ds : List D) (R : D → Prop) (Z : Addr → Prop) (hl : ds.length = 2) (h : sp_law_a_turn A ds R Z) : w_law_a_turn K A (gam0 4 ds) [] (Pt R Z) := by
  obtain ⟨n, rfl, n2, n5, r⟩ := h
  obtain ⟨m, rfl⟩ : ∃ m : Nat, n = m := ⟨n.toNat, by omega⟩
  have m4 : m ∈ [2, 3, 4, 5] := by
    have : m = 2 ∨ m = 3 ∨ m = 4 ∨ m = 5 := by omega
    rcases this with rfl | rfl | rfl | rfl <;> decide
  have rk : rgOk (m : Int) := by unfold rgOk; omega
  simp only [w_law_a_turn, wSeq, wNext, wRet, wDrop, wAsg, wPar, wIf, wBrk, wCnt, wRaise, wIte, wAndV, wOrV, wNotV, wNeg, wAnd, wOr, wNot, wTest, wCB, wCons, wNil, wVar, wC, wBin, wTup, wLst, wLstM, wFrz, wIsN, wOrL, wDict0, wIt, wRng1, wRng2, wMeth, wMethT, wNoP, wPt, wSl, wRev, wRgs, fTupR, fLstR, fLstRM, rgM, wCall, wYes, bOf, gam0, List.map_cons, List.map_nil, List.length_cons, List.length_nil, List.replicate, List.cons_append, List.nil_append, List.append_nil, List.getElem?_cons_zero, List.getElem?_cons_succ, List.set_cons_zero, List.set_cons_succ, Nat.add_sub_cancel, Nat.sub_self, Nat.sub_zero, Nat.reduceAdd, Nat.reduceSub, Nat.zero_add, if_true, if_false, Bool.false_eq_true, Bool.not_true, Bool.not_false, true_and, and_true, pures, D.pure, Bool.and_true, Bool.true_and]
  refine ⟨5, rfl, by decide, by decide, fun way _ _ => ?_⟩
  simp only [dEq, res, eqOk_int, deq_int, wSeq, wNext, wRet, wDrop, wAsg, wPar, wIf, wBrk, wCnt, wRaise, wIte, wAndV, wOrV, wNotV, wNeg, wAnd, wOr, wNot, wTest, wCB, wCons, wNil, wVar, wC, wBin, wTup, wLst, wLstM, wFrz, wIsN, wOrL, wDict0, wIt, wRng1, wRng2, wMeth, wMethT, wNoP, wPt, wSl, wRev, wRgs, fTupR, fLstR, fLstRM, rgM, wCall, wYes, bOf, gam0, List.map_cons, List.map_nil, List.length_cons, List.length_nil, List.replicate, List.cons_append, List.nil_append, List.append_nil, List.getElem?_cons_zero, List.getElem?_cons_succ, List.set_cons_zero, List.set_cons_succ, Nat.add_sub_cancel, Nat.sub_self, Nat.sub_zero, Nat.reduceAdd, Nat.reduceSub, Nat.zero_add, if_true, if_false, Bool.false_eq_true, Bool.not_true, Bool.not_false, true_and, and_true, pures, D.pure, Bool.and_true, Bool.true_and]
  split
  · refine ⟨rk, ?_⟩
    rw [rgD_rgL]
    exact ⟨pures_ints _, r _ (tOk_rg (by omega) (by omega)) (by rw [rgL_len])⟩
  · split
    · simp only [dSub, fI, fT, wSeq, wNext, wRet, wDrop, wAsg, wPar, wIf, wBrk, wCnt, wRaise, wIte, wAndV, wOrV, wNotV, wNeg, wAnd, wOr, wNot, wTest, wCB, wCons, wNil, wVar, wC, wBin, wTup, wLst, wLstM, wFrz, wIsN, wOrL, wDict0, wIt, wRng1, wRng2, wMeth, wMethT, wNoP, wPt, wSl, wRev, wRgs, fTupR, fLstR, fLstRM, rgM, wCall, wYes, bOf, gam0, List.map_cons, List.map_nil, List.length_cons, List.length_nil, List.replicate, List.cons_append, List.nil_append, List.append_nil, List.getElem?_cons_zero, List.getElem?_cons_succ, List.set_cons_zero, List.set_cons_succ, Nat.add_sub_cancel, Nat.sub_self, Nat.sub_zero, Nat.reduceAdd, Nat.reduceSub, Nat.zero_add, if_true, if_false, Bool.false_eq_true, Bool.not_true, Bool.not_false, true_and, and_true, pures, D.pure, Bool.and_true, Bool.true_and]
      refine ⟨_, rfl, by omega, by omega, fun i i0 i1 => ?_⟩
      obtain ⟨at_, rfl⟩ : ∃ j : Nat, i = j := ⟨i.toNat, by omega⟩
      obtain ⟨t1, t2⟩ := rgI_tok m m4 at_ (List.mem_range.mpr (by omega)) (by omega)
      simp only [dAdd, wSeq, wNext, wRet, wDrop, wAsg, wPar, wIf, wBrk, wCnt, wRaise, wIte, wAndV, wOrV, wNotV, wNeg, wAnd, wOr, wNot, wTest, wCB, wCons, wNil, wVar, wC, wBin, wTup, wLst, wLstM, wFrz, wIsN, wOrL, wDict0, wIt, wRng1, wRng2, wMeth, wMethT, wNoP, wPt, wSl, wRev, wRgs, fTupR, fLstR, fLstRM, rgM, wCall, wYes, bOf, gam0, List.map_cons, List.map_nil, List.length_cons, List.length_nil, List.replicate, List.cons_append, List.nil_append, List.append_nil, List.getElem?_cons_zero, List.getElem?_cons_succ, List.set_cons_zero, List.set_cons_succ, Nat.add_sub_cancel, Nat.sub_self, Nat.sub_zero, Nat.reduceAdd, Nat.reduceSub, Nat.zero_add, if_true, if_false, Bool.false_eq_true, Bool.not_true, Bool.not_false, true_and, and_true, pures, D.pure, Bool.and_true, Bool.true_and]
      refine ⟨by unfold rgOk; omega, by decide, ?_⟩
      rw [rgD_rgL]
      have e2 : ((m : Int) - ((at_ : Int) + 2)).toNat = m - (at_ + 2) := by omega
      have e : List.map D.int (rgL at_) ++ [D.int ((at_ : Int) + 1), D.int at_] ++ rgD ((at_ : Int) + 2) m = (rgL at_ ++ [(at_ : Int) + 1, (at_ : Int)] ++ (List.range (m - (at_ + 2))).map fun (k : Nat) => ((at_ : Int) + 2 + k)).map D.int := by
        rw [rgD_ints, e2, List.map_append, List.map_append]
        rfl
      have l1 := congrArg List.length e
      rw [List.length_map, t2] at l1
      refine ⟨?_, ⟨by unfold rgOk; omega, rk⟩, ?_, ?_⟩
      · rw [List.length_map, rgL_len]
        unfold big
        show at_ + 2 ≤ _
        omega
      · rw [← List.length_append, l1]
        unfold big
        omega
      · rw [e]
        exact ⟨pures_ints _, r _ t1 (by rw [t2])⟩
    · refine ⟨rk, ?_⟩
      rw [rgD_rgL]
      refine ⟨pures_ints _, rgL m, rfl, by rw [rgL_len]; omega, fun ms hp => ?_⟩
      simp only [dTupOf, items, wSeq, wNext, wRet, wDrop, wAsg, wPar, wIf, wBrk, wCnt, wRaise, wIte, wAndV, wOrV, wNotV, wNeg, wAnd, wOr, wNot, wTest, wCB, wCons, wNil, wVar, wC, wBin, wTup, wLst, wLstM, wFrz, wIsN, wOrL, wDict0, wIt, wRng1, wRng2, wMeth, wMethT, wNoP, wPt, wSl, wRev, wRgs, fTupR, fLstR, fLstRM, rgM, wCall, wYes, bOf, gam0, List.map_cons, List.map_nil, List.length_cons, List.length_nil, List.replicate, List.cons_append, List.nil_append, List.append_nil, List.getElem?_cons_zero, List.getElem?_cons_succ, List.set_cons_zero, List.set_cons_succ, Nat.add_sub_cancel, Nat.sub_self, Nat.sub_zero, Nat.reduceAdd, Nat.reduceSub, Nat.zero_add, if_true, if_false, Bool.false_eq_true, Bool.not_true, Bool.not_false, true_and, and_true, pures, D.pure, Bool.and_true, Bool.true_and]
      have hl := hp.length_eq
      rw [rgL_len] at hl
      exact ⟨pures_ints _, r ms (tOk_of_perm hp (by omega) (by omega)) (by omega)⟩
theorem pure_law_exact (K : PySem.W.Frag) (A : Adr) (ds : List D) (R : D → Prop) (Z : Addr → Prop) (hl : ds.length = 2) (h : sp_law_exact A ds R Z) : w_law_exact K A (gam0 3 ds) [] (Pt R Z) := by
  obtain ⟨a, b, rfl, ha, hb, r⟩ := h
  have e1 : eqOk (.tup (a.map D.int)) = true := eqOk_tI a
  have e2 : eqOk (.tup (b.map D.int)) = true := eqOk_tI b
  have e3 : deq (.tup (a.map D.int)) (.tup (b.map D.int)) = decide (a = b) := deq_tI a b
  simp only [w_law_exact, tI, dIsi, dNe, res, tyN, isi, e1, e2, e3, wSeq, wNext, wRet, wDrop, wAsg, wPar, wIf, wBrk, wCnt, wRaise, wIte, wAndV, wOrV, wNotV, wNeg, wAnd, wOr, wNot, wTest, wCB, wCons, wNil, wVar, wC, wBin, wTup, wLst, wLstM, wFrz, wIsN, wOrL, wDict0, wIt, wRng1, wRng2, wMeth, wMethT, wNoP, wPt, wSl, wRev, wRgs, fTupR, fLstR, fLstRM, rgM, wCall, wYes, bOf, gam0, List.map_cons, List.map_nil, List.length_cons, List.length_nil, List.replicate, List.cons_append, List.nil_append, List.append_nil, List.getElem?_cons_zero, List.getElem?_cons_succ, List.set_cons_zero, List.set_cons_succ, Nat.add_sub_cancel, Nat.sub_self, Nat.sub_zero, Nat.reduceAdd, Nat.reduceSub, Nat.zero_add, if_true, if_false, Bool.false_eq_true, Bool.not_true, Bool.not_false, true_and, and_true, pures, D.pure, Bool.and_true, Bool.true_and]
  refine ⟨rfl, ?_⟩
  show if (!decide (a = b)) = true then _ else _
  by_cases h : a = b
  · rw [decide_eq_true h] at r ⊢
    rw [if_neg (by decide)]
    simp only [wLc, wipeG, itemsI, wSeq, wNext, wRet, wDrop, wAsg, wPar, wIf, wBrk, wCnt, wRaise, wIte, wAndV, wOrV, wNotV, wNeg, wAnd, wOr, wNot, wTest, wCB, wCons, wNil, wVar, wC, wBin, wTup, wLst, wLstM, wFrz, wIsN, wOrL, wDict0, wIt, wRng1, wRng2, wMeth, wMethT, wNoP, wPt, wSl, wRev, wRgs, fTupR, fLstR, fLstRM, rgM, wCall, wYes, bOf, gam0, List.map_cons, List.map_nil, List.length_cons, List.length_nil, List.replicate, List.cons_append, List.nil_append, List.append_nil, List.getElem?_cons_zero, List.getElem?_cons_succ, List.set_cons_zero, List.set_cons_succ, Nat.add_sub_cancel, Nat.sub_self, Nat.sub_zero, Nat.reduceAdd, Nat.reduceSub, Nat.zero_add, if_true, if_false, Bool.false_eq_true, Bool.not_true, Bool.not_false, true_and, and_true, pures, D.pure, Bool.and_true, Bool.true_and]
    refine ⟨by rw [List.length_map]; unfold big; omega, wLcL_filter (fun _ => false) _ (fun x hx μ' Q q => ?_) (fun x _ e => by cases e) ?_⟩
    · obtain ⟨k, hk, rfl⟩ := List.mem_map.mp hx
      simp only [dIsi, res, tyN, isi, wSeq, wNext, wRet, wDrop, wAsg, wPar, wIf, wBrk, wCnt, wRaise, wIte, wAndV, wOrV, wNotV, wNeg, wAnd, wOr, wNot, wTest, wCB, wCons, wNil, wVar, wC, wBin, wTup, wLst, wLstM, wFrz, wIsN, wOrL, wDict0, wIt, wRng1, wRng2, wMeth, wMethT, wNoP, wPt, wSl, wRev, wRgs, fTupR, fLstR, fLstRM, rgM, wCall, wYes, bOf, gam0, List.map_cons, List.map_nil, List.length_cons, List.length_nil, List.replicate, List.cons_append, List.nil_append, List.append_nil, List.getElem?_cons_zero, List.getElem?_cons_succ, List.set_cons_zero, List.set_cons_succ, Nat.add_sub_cancel, Nat.sub_self, Nat.sub_zero, Nat.reduceAdd, Nat.reduceSub, Nat.zero_add, if_true, if_false, Bool.false_eq_true, Bool.not_true, Bool.not_false, true_and, and_true, pures, D.pure, Bool.and_true, Bool.true_and]
      exact ⟨rfl, rfl, q⟩
    · rw [List.filter_eq_nil_iff.mpr (fun _ _ => by decide)]
      refine ⟨Nat.zero_le _, ⟨eqOk_lI [], eqOk_lI []⟩, rfl, ?_⟩
      have e : deq (.lst []) (.lst []) = decide (([] : List Int) = []) := deq_lI [] []
      show R (.bl (deq (.lst []) (.lst [])))
      rw [e]
      exact r
  · rw [decide_eq_false h] at r ⊢
    rw [if_pos (by decide)]
    exact r
end TC

set_option Elab.async false
set_option linter.all false
set_option maxRecDepth 100000
set_option maxHeartbeats 2000000
namespace TC
open PySem PySem.Spec PyProof.Rows L2
/-! ### something that may be none -/
theorem okD_int (n : Int) : okD (.int n) = true := rfl
theorem okD_tup {ds : List D} (h : ∀ d ∈ ds, okD d = true) : okD (.tup ds) = true := by
  unfold okD
  rw [Bool.and_eq_true]
  exact ⟨rfl, pures_of fun d hd => okD_pure (h d hd)⟩
theorem okD_lst {ds : List D} (h : ∀ d ∈ ds, okD d = true) : okD (.lst ds) = true := by
  unfold okD
  rw [Bool.and_eq_true]
  exact ⟨rfl, pures_of fun d hd => okD_pure (h d hd)⟩
theorem thing_tup {ds : List D} (h : ∀ d ∈ ds, okD d = true) (hl : ds.length ≤ 1000) : thing (.tup ds) = true := by
  unfold thing okT
  rw [okD_tup h]
  show ((true && (ds.all okD && decide (ds.length ≤ 1000))) && (D.tup ds).pure) = true
  rw [List.all_eq_true.mpr h, decide_eq_true hl, okD_pure (okD_tup h)]
  rfl
theorem thing_okT {x : D} (h : thing x = true) : okT x = true := by
  unfold thing at h
  rw [Bool.and_eq_true] at h
  exact h.1
theorem ints_ok (a : List Int) : ∀ d ∈ a.map D.int, okD d = true := fun d h => by
  obtain ⟨n, _, rfl⟩ := List.mem_map.mp h
  rfl
theorem thing_tI {a : List Int} (h : tOk a = true) : thing (tI a) = true := thing_tup (ints_ok a) (by
  rw [List.length_map]
  have := (tOk_iff.mp h).1
  omega)
theorem pick_things {A : Adr} {L : List D} {R : D → Prop} {Z : Addr → Prop} (h1 : L ≠ []) (h2 : L.length ≤ 1000) (r : ∀ d, thing d = true → R d) (hL : ∀ d ∈ L, thing d = true) : pures [.st, .lst L] = true ∧ sp_law_pick A [.st, .lst L] (fun d => d.pure = true ∧ R d) Z := by
  have hp : pures L = true := pures_of fun d hd => okT_pure (thing_okT (hL d hd))
  refine ⟨?_, L, rfl, h1, h2, hp, fun d hd => ⟨okT_pure (thing_okT (hL d hd)), r d (hL d hd)⟩⟩
  show (true && (pures L && true)) = true
  rw [hp]
  rfl
theorem cut_one {ds : List D} {i : Int} (h0 : 0 ≤ i) (h1 : i < ds.length) : cutD ds (some i) (some (i + 1)) ≠ [] := by
  intro e
  have := congrArg List.length e
  obtain ⟨k, rfl⟩ : ∃ k : Nat, i = k := ⟨i.toNat, by omega⟩
  have e1 : ((k : Int) + 1) = ((k + 1 : Nat) : Int) := by omega
  unfold cutD at this
  rw [e1, HT.sIx_nat, HT.sIx_nat, List.length_take, List.length_drop] at this
  simp only [List.length_nil] at this
  omega
/-! ### the law's own look -/
theorem isNum_int {d : D} (h : isNum d = true) : ∃ n : Int, d = .int n := by
  cases d with
  | int n => exact ⟨n, rfl⟩
  | _ => cases h
theorem ints_filter : ∀ ds : List D, ∃ ns : List Int, ds.filter isNum = ns.map D.int
  | [] => ⟨[], rfl⟩
  | d :: ds => by
    obtain ⟨ns, e⟩ := ints_filter ds
    cases h : isNum d with
    | true =>
      obtain ⟨n, rfl⟩ := isNum_int h
      exact ⟨n :: ns, by rw [List.filter_cons_of_pos h, e]; rfl⟩
    | false => exact ⟨ns, by rw [List.filter_cons_of_neg (by rw [h]; decide), e]⟩
theorem countP_ints (ns : List Int) (k : Int) : ((ns.map D.int).countP fun z => deq z (.int k)) = ns.count k := by
  rw [List.countP_map]
  refine List.countP_congr fun n _ => ?_
  show deq (.int n) (.int k) = true ↔ (n == k) = true
  rw [deq_int]
  simp
theorem turn_by_counts {ds : List D} {ns : List Int} (hf : ds.filter isNum = ns.map D.int) {n : Nat} (hl : ds.length = n) (h2 : 2 ≤ n) (h5 : n ≤ 5) :
    (sizeOf (.tup ds) = n) ↔ ∀ k ∈ rgL n, ns.count k = 1 := by
  constructor
  · intro h k hk
    obtain ⟨ms, e, ht, hs⟩ := sizeOf_turn (x := .tup ds) (by omega)
    cases e
    have e : (ms.map D.int).filter isNum = ms.map D.int := List.filter_eq_self.mpr fun d hd => by
      obtain ⟨m, _, rfl⟩ := List.mem_map.mp hd
      rfl
    rw [e] at hf
    have e2 : ms = ns := by
      have e2 : nums (ms.map D.int) = nums (ns.map D.int) := by rw [hf]
      rw [nums_ints, nums_ints] at e2
      exact Option.some.inj e2
    subst e2
    rw [List.length_map] at hl
    have hm : k ∈ ms := by
      obtain ⟨h1, h2⟩ := rgL_mem.mp hk
      have := (tOk_iff.mp ht).2 k.toNat (by omega)
      rw [Int.toNat_of_nonneg h1] at this
      exact this
    have h1 := List.nodup_iff_count.mp (tOk_nodup ht) k
    have h2 := List.count_pos_iff.mpr hm
    omega
  · intro h
    have hs : ∀ x ∈ rgL n, x ∈ ns := fun x hx => List.count_pos_iff.mp (by rw [h x hx]; decide)
    have hle : ns.length ≤ ds.length := by
      have := List.length_filter_le isNum ds
      rw [hf, List.length_map] at this
      exact this
    have hp := perm_of_sub (rgL_nodup n) hs (by rw [rgL_len]; omega)
    have hl2 := hp.length_eq
    rw [rgL_len] at hl2
    have hall : ds.filter isNum = ds := by
      apply List.filter_eq_self.mpr
      apply List.length_filter_eq_length_iff.mp
      rw [hf, List.length_map]
      omega
    rw [hf] at hall
    subst hall
    have ht := tOk_of_perm hp.symm h2 h5
    rw [show D.tup (ns.map D.int) = tI ns from rfl, sizeOf_ok ht]
    omega
theorem sizeOf_len {ds : List D} {n : Nat} (h : sizeOf (.tup ds) = n) (hn : n ≠ 0) : ds.length = n := by
  obtain ⟨ms, e, ht, hs⟩ := sizeOf_turn (x := .tup ds) (by omega)
  cases e
  rw [List.length_map]
  omega
end TC

set_option Elab.async false
set_option linter.all false
set_option maxRecDepth 100000
set_option maxHeartbeats 2000000
namespace TC
open PySem PySem.Spec PyProof.Rows L2
theorem deq_str (s t : Str) : deq (.str s) (.str t) = decide (s = t) := by
  show PyData.eqv (.str s) (.str t) = _
  rw [PyData.eqv]
  by_cases h : s = t <;> simp [h]
/-- what is known of the errors' classes -/
structure ExF (K : PySem.W.Frag) (A : Adr) : Prop where
  m_size : PySem.W.exmOne K (.ref A.c_NoSize) (.ref A.c_CoatError) = some true
  m_turn : PySem.W.exmOne K (.ref A.c_NoTurn) (.ref A.c_CoatError) = some true
  x_size : ExcC K A.c_NoSize
  x_turn : ExcC K A.c_NoTurn
  k_ss : PySem.W.kitOne K (.ref A.c_NoSize) (.ref A.c_NoSize) = some true
  k_st : PySem.W.kitOne K (.ref A.c_NoSize) (.ref A.c_NoTurn) = some false
  k_sg : PySem.W.kitOne K (.ref A.c_NoSize) (.ref A.c_NoGroup) = some false
  k_sv : PySem.W.kitOne K (.ref A.c_NoSize) (.type "ValueError") = some true
  k_ts : PySem.W.kitOne K (.ref A.c_NoTurn) (.ref A.c_NoSize) = some false
  k_tt : PySem.W.kitOne K (.ref A.c_NoTurn) (.ref A.c_NoTurn) = some true
  k_tg : PySem.W.kitOne K (.ref A.c_NoTurn) (.ref A.c_NoGroup) = some false
  k_tv : PySem.W.kitOne K (.ref A.c_NoTurn) (.type "ValueError") = some true
theorem doneOk.imp {way : Str} {x y : D} {R R' : D → Prop} {S S' T T' : Prop} (h : doneOk way x y R S T) (hr : ∀ d, R d → R' d) (hs : S → S') (ht : T → T') : doneOk way x y R' S' T' := by
  rcases h with ⟨e, h1, h2⟩ | ⟨e, h1, h2⟩ | ⟨e, h1, h2⟩
  · exact .inl ⟨e, fun a b p q r s u => hr _ (h1 a b p q r s u), fun z => ht (h2 z)⟩
  · exact .inr (.inl ⟨e, fun a p q => hr _ (h1 a p q), fun z => ht (h2 z)⟩)
  · exact .inr (.inr ⟨e, fun a p q r => hr _ (h1 a p q r), fun z => hs (h2 z)⟩)
theorem eqOk_bl (b : Bool) : eqOk (.bl b) = true := by
  show (true && SeqAt.shaped (.bool b)) = true
  simp [SeqAt.shaped, PyData.canLay0, PyData.depth]
theorem deq_bl (a b : Bool) : deq (.bl a) (.bl b) = (a == b) := by
  show PyData.eqv (.bool a) (.bool b) = _
  rw [PyData.eqv]
theorem rg26 : rgD 2 6 = [.int 2, .int 3, .int 4, .int 5] := rfl
theorem deq_lst_of (a b : List Int) {x y : List D} (h1 : x = a.map D.int) (h2 : y = b.map D.int) : eqOk (.lst x) = true ∧ eqOk (.lst y) = true ∧ deq (.lst x) (.lst y) = decide (a = b) := by
  subst h1 h2
  exact ⟨eqOk_lI a, eqOk_lI b, deq_lI a b⟩
theorem sizeOf_cases (x : D) : sizeOf x = 0 ∨ sizeOf x = 2 ∨ sizeOf x = 3 ∨ sizeOf x = 4 ∨ sizeOf x = 5 := by
  by_cases h : sizeOf x = 0
  · exact .inl h
  · obtain ⟨ns, _, ht, e⟩ := sizeOf_turn h
    have := (tOk_iff.mp ht).1
    omega
theorem tried_it {A : Adr} {way : Str} {x y : D} {Q : D → Prop} {Z : Addr → Prop} (tx : thing x = true) (ty : thing y = true) (w : Str) (h : doneOk way x y (fun _ => w = "told") (w = "size") (w = "turn")) (q : Q (.str w)) : sp_law_tried A [.str way, x, y] Q Z :=
  ⟨way, x, y, rfl, tx, ty, h.imp (fun _ e => by rw [← e]; exact q) (fun e => by rw [← e]; exact q) (fun e => by rw [← e]; exact q)⟩
theorem wForL_go {j : Nat} {body : DS} {P : Post} (I : List D → Gam → Mem → Prop) (fin : ∀ Γ μ, I [] Γ μ → P.nx Γ μ)
    (step : ∀ x xs Γ μ, I (x :: xs) Γ μ → (nx : Gam → Mem → Prop) → (∀ Γ' μ', I xs Γ' μ' → nx Γ' μ') → body (Γ.set j (some x)) μ ⟨nx, P.rt, P.nx, nx, P.rz⟩) :
    ∀ (ds : List D) (Γ : Gam) (μ : Mem), I ds Γ μ → wForL (tfN j) body ds Γ μ P
  | [], Γ, μ, h => fin Γ μ h
  | x :: xs, Γ, μ, h => step x xs Γ μ h _ fun Γ' μ' h' => wForL_go I fin step xs Γ' μ' h'
end TC

set_option Elab.async false
set_option linter.all false
set_option maxRecDepth 100000
set_option maxHeartbeats 4000000
namespace TC
open PySem PySem.Spec PyProof.Rows L2
/-! ### turns put into one another -/
theorem rgL_getD {n j : Nat} (h : j < n) : (rgL n).getD j 0 = j := by
  unfold rgL
  rw [List.getD_eq_getElem?_getD, List.getElem?_map, List.getElem?_range h]
  rfl
theorem put_rg (a : List Int) : putL a (rgL a.length) = a := by
  unfold putL
  apply List.ext_getElem
  · rw [List.length_map, rgL_len]
  · intro i h1 h2
    rw [List.getElem_map]
    have e : (rgL a.length)[i]'(by rw [rgL_len]; exact h2) = (i : Int) := by
      have := rgL_getD h2
      rw [List.getD_eq_getElem?_getD, List.getElem?_eq_getElem (by rw [rgL_len]; exact h2)] at this
      exact this
    rw [e, Int.toNat_natCast, List.getD_eq_getElem?_getD, List.getElem?_eq_getElem h2]
    rfl
theorem rg_put {a : List Int} {n : Nat} (h : ∀ k ∈ a, 0 ≤ k ∧ k < n) : putL (rgL n) a = a := by
  unfold putL
  have : a.map (fun k => (rgL n).getD k.toNat 0) = a.map id := by
    apply List.map_congr_left
    intro k hk
    obtain ⟨h0, h1⟩ := h k hk
    rw [rgL_getD (by omega)]
    show ((k.toNat : Nat) : Int) = k
    omega
  rw [this, List.map_id]
theorem put_assoc {a b c : List Int} (h : ∀ k ∈ c, 0 ≤ k ∧ k < b.length) : putL (putL a b) c = putL a (putL b c) := by
  unfold putL
  rw [List.map_map]
  apply List.map_congr_left
  intro k hk
  obtain ⟨h0, h1⟩ := h k hk
  have hl : k.toNat < b.length := by omega
  show (b.map _).getD k.toNat 0 = a.getD (b.getD k.toNat 0).toNat 0
  rw [List.getD_eq_getElem?_getD, List.getElem?_map, List.getElem?_eq_getElem hl, List.getD_eq_getElem?_getD (l := b), List.getElem?_eq_getElem hl]
  rfl
theorem len_put (a b : List Int) : (putL a b).length = b.length := by unfold putL; rw [List.length_map]
theorem len_back (a : List Int) : (backL a).length = a.length := by unfold backL; rw [List.length_map, List.length_range]
theorem tOk_put {a b : List Int} (ta : tOk a = true) (tb : tOk b = true) (e : a.length = b.length) : tOk (putL a b) = true := by
  have hb := (tOk_iff.mp tb).1
  refine tOk_of_perm (n := b.length) ?_ hb.1 hb.2
  have p1 : (putL a b).Perm (putL a (rgL b.length)) := (tOk_perm tb).symm.map _
  rw [← e, put_rg] at p1
  rw [← e]
  exact p1.trans (tOk_perm ta).symm
theorem idx_mem {a : List Int} (ta : tOk a = true) {k : Nat} (h : k < a.length) : a.getD (a.idxOf (k : Int)) 0 = k := by
  have hm := (tOk_iff.mp ta).2 k h
  have hl : a.idxOf (k : Int) < a.length := List.idxOf_lt_length_iff.mpr hm
  rw [List.getD_eq_getElem?_getD, List.getElem?_eq_getElem hl, List.getElem_idxOf hl]
  rfl
theorem put_back {a : List Int} (ta : tOk a = true) : putL a (backL a) = rgL a.length := by
  unfold putL backL rgL
  rw [List.map_map]
  apply List.map_congr_left
  intro k hk
  show a.getD ((a.idxOf (k : Int) : Nat) : Int).toNat 0 = _
  rw [Int.toNat_natCast, idx_mem ta (List.mem_range.mp hk)]
theorem back_getD {a : List Int} {j : Nat} (h : j < a.length) : (backL a).getD j 0 = (a.idxOf (j : Int) : Nat) := by
  unfold backL
  rw [List.getD_eq_getElem?_getD, List.getElem?_map, List.getElem?_range h]
  rfl
theorem back_map {a : List Int} (ta : tOk a = true) : a.map (fun k => ((a.idxOf k : Nat) : Int)) = rgL a.length := by
  apply List.ext_getElem
  · rw [List.length_map, rgL_len]
  · intro i h1 h2
    rw [rgL_len] at h2
    rw [List.getElem_map, (tOk_nodup ta).idxOf_getElem i h2]
    have := rgL_getD h2
    rw [List.getD_eq_getElem?_getD, List.getElem?_eq_getElem (by rw [rgL_len]; exact h2)] at this
    exact this.symm
theorem back_put {a : List Int} (ta : tOk a = true) : putL (backL a) a = rgL a.length := by
  rw [← back_map ta]
  unfold putL
  apply List.map_congr_left
  intro k hk
  obtain ⟨h0, h1⟩ := tOk_mem ta hk
  rw [back_getD (by omega), Int.toNat_of_nonneg h0]
theorem tOk_back {a : List Int} (ta : tOk a = true) : tOk (backL a) = true := by
  have ha := (tOk_iff.mp ta).1
  refine tOk_of_perm (n := a.length) ?_ ha.1 ha.2
  have e : backL a = (rgL a.length).map (fun k => ((a.idxOf k : Nat) : Int)) := by
    unfold backL rgL
    rw [List.map_map]
    rfl
  rw [e]
  exact ((tOk_perm ta).map _).trans (.of_eq (back_map ta))
/-! ### the calls, as the law asks them -/
theorem pures2 (a b : List Int) : pures [tI a, tI b] = true := by rw [pures_all]; simp [pure_tI]
theorem pures1 (a : List Int) : pures [tI a] = true := by rw [pures_all]; simp [pure_tI]
theorem dNe_tI {a b : List Int} {μ : Mem} {k : RD} (e : a = b) (q : k (.bl false) μ) : dNe (tI a) (tI b) μ k := by
  refine ⟨⟨eqOk_tI a, eqOk_tI b⟩, ?_⟩
  show k (.bl (!deq (tI a) (tI b))) μ
  rw [deq_tI, decide_eq_true e]
  exact q
theorem dNe_if {x y : D} {μ : Mem} {P Q : Prop} (hx : eqOk (res x μ) = true) (hy : eqOk (res y μ) = true) (q : if (!deq (res x μ) (res y μ)) = true then P else Q) : dNe x y μ fun d μ1 => match d with | .bl b => if b = true then P else Q | _ => False :=
  ⟨⟨hx, hy⟩, q⟩
theorem into_it {A : Adr} {a b : List Int} {Q : D → Prop} {Z : Addr → Prop} (ta : tOk a = true) (tb : tOk b = true) (e : a.length = b.length) (q : Q (tI (putL a b))) : pures [tI a, tI b] = true ∧ sp_into A [tI a, tI b] Q Z := by
  refine ⟨pures2 a b, _, _, rfl, thing_okT (thing_tI ta), thing_okT (thing_tI tb), fun c d h1 h2 _ _ _ => ?_, fun h => ?_⟩
  · have e1 : a = c := by
      have := congrArg (fun x => match x with | D.tup ds => nums ds | _ => none) h1
      exact Option.some.inj ((nums_ints a).symm.trans (this.trans (nums_ints c)))
    have e2 : b = d := by
      have := congrArg (fun x => match x with | D.tup ds => nums ds | _ => none) h2
      exact Option.some.inj ((nums_ints b).symm.trans (this.trans (nums_ints d)))
    rw [← e1, ← e2]
    exact q
  · refine (h ⟨?_, ?_⟩).elim
    · rw [sizeOf_ok ta]
      have := (tOk_iff.mp ta).1
      omega
    · rw [sizeOf_ok ta, sizeOf_ok tb, e]
theorem put_it {A : Adr} {a b : List Int} {Q : D → Prop} {Z : Addr → Prop} (ta : tOk a = true) (tb : tOk b = true) (e : a.length = b.length) (q : Q (tI (putL a b))) : pures [tI a, tI b] = true ∧ sp_law_into A [tI a, tI b] Q Z :=
  ⟨pures2 a b, a, b, rfl, fun k hk => by rw [e]; exact tOk_mem tb hk, by have := (tOk_iff.mp tb).1; omega, q⟩
theorem undone_it {A : Adr} {a : List Int} {Q : D → Prop} {Z : Addr → Prop} (ta : tOk a = true) (q : Q (tI (backL a))) : pures [tI a] = true ∧ sp_undone A [tI a] Q Z := by
  refine ⟨pures1 a, _, rfl, thing_okT (thing_tI ta), fun c h1 _ => ?_, fun h => ?_⟩
  · have e1 : a = c := by
      have := congrArg (fun x => match x with | D.tup ds => nums ds | _ => none) h1
      exact Option.some.inj ((nums_ints a).symm.trans (this.trans (nums_ints c)))
    rw [← e1]
    exact q
  · rw [sizeOf_ok ta] at h
    have := (tOk_iff.mp ta).1
    omega
theorem back_it {A : Adr} {a : List Int} {Q : D → Prop} {Z : Addr → Prop} (ta : tOk a = true) (q : Q (tI (backL a))) : pures [tI a] = true ∧ sp_law_undone A [tI a] Q Z :=
  ⟨pures1 a, a, rfl, fun k hk => (tOk_iff.mp ta).2 k hk, by have := (tOk_iff.mp ta).1; omega, q⟩
theorem plain_it {A : Adr} {n : Nat} {Q : D → Prop} {Z : Addr → Prop} (h2 : 2 ≤ n) (h5 : n ≤ 5) (q : Q (tI (rgL n))) : sp_plain A [.int n] Q Z := by
  refine ⟨_, rfl, rfl, fun m h1 _ _ => ?_, fun h => ?_⟩
  · have e : n = m := by
      have := D.int.inj h1
      omega
    rw [← e]
    exact q
  · exact (isSize_no h ⟨by omega, by omega⟩).elim
theorem exact_it {A : Adr} {a b : List Int} {Q : D → Prop} {Z : Addr → Prop} (ta : tOk a = true) (e : a = b) (q : Q (.bl true)) : pures [tI a, tI b] = true ∧ sp_law_exact A [tI a, tI b] Q Z := by
  have := (tOk_iff.mp ta).1
  subst e
  exact ⟨pures2 a a, a, a, rfl, by omega, by omega, by rw [decide_eq_true rfl]; exact q⟩
theorem turn_it {A : Adr} {n : Nat} {Q : D → Prop} {Z : Addr → Prop} (h2 : 2 ≤ n) (h5 : n ≤ 5) (q : ∀ a : List Int, tOk a = true → a.length = n → Q (tI a)) : sp_law_a_turn A [.st, .int n] Q Z :=
  ⟨n, rfl, by omega, by omega, fun a ta e => q a ta (by omega)⟩
theorem turn_it2 {A : Adr} {i : Int} {Q : D → Prop} {Z : Addr → Prop} (h2 : 2 ≤ i) (h5 : i ≤ 5) (q : ∀ a : List Int, tOk a = true → Q (tI a)) : pures [.st, .int i] = true ∧ sp_law_a_turn A [.st, .int i] Q Z :=
  ⟨rfl, i, rfl, h2, h5, fun a ta e => q a ta⟩
theorem odd_it {A : Adr} {L : List D} {Q : D → Prop} {Z : Addr → Prop} (h1 : L ≠ []) (h2 : L.length ≤ 1000) (hL : ∀ d ∈ L, thing d = true ∧ isSize d = false) (q : ∀ d, thing d = true → isSize d = false → Q d) : pures [.st, .lst L] = true ∧ sp_law_pick A [.st, .lst L] Q Z := by
  have hp : pures L = true := pures_of fun d hd => okT_pure (thing_okT (hL d hd).1)
  refine ⟨?_, L, rfl, h1, h2, hp, fun d hd => q d (hL d hd).1 (hL d hd).2⟩
  show (true && (pures L && true)) = true
  rw [hp]
  rfl
theorem known_it {A : Adr} {x : D} {b : List Int} {Q : D → Prop} {Z : Addr → Prop} (tx : thing x = true) (tb : tOk b = true) (q : Q (.bl true)) : pures [x, tI b] = true ∧ sp_law_known A [x, tI b] Q Z :=
  ⟨by rw [pures_all]; simp [pure_tI, okT_pure (thing_okT tx)], x, b, rfl, tx, tb, q⟩
theorem draw_it {A : Adr} {m : Int} {Q : D → Prop} {Z : Addr → Prop} (h0 : 0 < m) (h1 : m < 1000000000000000000000000000000000000000000) (q : ∀ r : Nat, (r : Int) < m → Q (.int r)) : sp_law_draw A [.st, .int m] Q Z :=
  ⟨m, rfl, h0, h1, fun r r0 r1 => by
    have := q r.toNat (by omega)
    rw [Int.toNat_of_nonneg r0] at this
    exact this⟩
end TC

set_option Elab.async false
set_option linter.all false
set_option maxRecDepth 100000
set_option maxHeartbeats 4000000
/-! All turns, one by one. -/
namespace TC
open PySem PySem.Spec PyProof.Rows L2
def insAll (x : Int) : List Int → List (List Int)
  | [] => [[x]]
  | y :: ys => (x :: y :: ys) :: (insAll x ys).map (y :: ·)
def permsOf : List Int → List (List Int)
  | [] => [[]]
  | x :: xs => (permsOf xs).flatMap (insAll x)
theorem mem_insAll (x : Int) : ∀ s t : List Int, s ++ x :: t ∈ insAll x (s ++ t)
  | [], [] => List.mem_cons_self ..
  | [], _ :: _ => List.mem_cons_self ..
  | y :: s, t => List.mem_cons_of_mem _ (List.mem_map.mpr ⟨_, mem_insAll x s t, rfl⟩)
theorem mem_perms : ∀ {xs l : List Int}, l.Perm xs → l ∈ permsOf xs
  | [], l, h => by
    rw [List.Perm.eq_nil h]
    exact List.mem_cons_self ..
  | x :: xs, l, h => by
    have hx : x ∈ l := h.symm.subset (List.mem_cons_self ..)
    obtain ⟨s, t, rfl⟩ := List.append_of_mem hx
    have h2 : (s ++ t).Perm xs := List.Perm.cons_inv (List.perm_middle.symm.trans h)
    exact List.mem_flatMap.mpr ⟨_, mem_perms h2, mem_insAll x s t⟩
def allT : List (List Int) := permsOf (rgL 2) ++ permsOf (rgL 3) ++ permsOf (rgL 4) ++ permsOf (rgL 5)
theorem mem_allT {a : List Int} (h : tOk a = true) : a ∈ allT := by
  have p := tOk_perm h
  obtain ⟨h2, h5⟩ := (tOk_iff.mp h).1
  unfold allT
  rw [List.mem_append, List.mem_append, List.mem_append]
  have : a.length = 2 ∨ a.length = 3 ∨ a.length = 4 ∨ a.length = 5 := by omega
  rcases this with e | e | e | e <;> rw [e] at p
  · exact .inl (.inl (.inl (mem_perms p.symm)))
  · exact .inl (.inl (.inr (mem_perms p.symm)))
  · exact .inl (.inr (mem_perms p.symm))
  · exact .inr (mem_perms p.symm)
def chk (a : List Int) : Bool :=
  decide (1 ≤ ordL a ∧ ordL a ≤ 6) && decide (powL a (ordL a) = rgL a.length) && ((List.range (ordL a)).all fun k => decide (k = 0) || !decide (powL a k = rgL a.length)) &&
  cycOk (cycL a) a.length && rounds (cycL a) (ordL a) && ((List.range (ordL a)).all fun m => decide (m = 0) || !rounds (cycL a) m) &&
  decide (signL a = 1 - 2 * ((((cycL a).filter fun r => decide (r.length % 2 = 0)).length : Int) % 2)) &&
  ((List.range (ordL a)).all fun m => decide (ledL (cycL a) a.length m = powL a m)) &&
  decide (powL a (ordL a - 1) = backL a) && decide (signL (backL a) = signL a) && decide (signL a * signL a = 1)
theorem chk_all : allT.all chk = true := by decide +kernel
structure Known (a : List Int) : Prop where
  pos : 1 ≤ ordL a ∧ ordL a ≤ 6
  all : powL a (ordL a) = rgL a.length
  ok : cycOk (cycL a) a.length = true
  rnd : rounds (cycL a) (ordL a) = true
  least : ∀ m, 1 ≤ m → m < ordL a → rounds (cycL a) m = false
  first : ∀ m, 1 ≤ m → m < ordL a → powL a m ≠ rgL a.length
  sgn : signL a = 1 - 2 * ((((cycL a).filter fun r => decide (r.length % 2 = 0)).length : Int) % 2)
  led : ∀ m, m < ordL a → ledL (cycL a) a.length m = powL a m
  back : powL a (ordL a - 1) = backL a
  sback : signL (backL a) = signL a
  sq : signL a * signL a = 1
theorem known {a : List Int} (h : tOk a = true) : Known a := by
  have c := List.all_eq_true.mp chk_all a (mem_allT h)
  unfold chk at c
  simp only [Bool.and_eq_true, decide_eq_true_eq, List.all_eq_true, List.mem_range, Bool.or_eq_true, Bool.not_eq_true', decide_eq_false_iff_not] at c
  obtain ⟨⟨⟨⟨⟨⟨⟨⟨⟨⟨c1, c2⟩, c3⟩, c4⟩, c5⟩, c6⟩, c7⟩, c8⟩, c9⟩, c10⟩, c11⟩ := c
  exact ⟨c1, c2, c4, c5, fun m h1 h2 => (c6 m h2).resolve_left (by omega), fun m h1 h2 => (c3 m h2).resolve_left (by omega), c7, c8, c9, c10, c11⟩
/-! ### powers -/
theorem len_pow (a : List Int) : ∀ k, (powL a k).length = a.length
  | 0 => rgL_len _
  | k + 1 => len_put _ _
theorem tOk_pow {a : List Int} (h : tOk a = true) : ∀ k, tOk (powL a k) = true
  | 0 => tOk_rg (tOk_iff.mp h).1.1 (tOk_iff.mp h).1.2
  | k + 1 => tOk_put (tOk_pow h k) h (len_pow a k)
theorem inB {a b : List Int} (ha : tOk a = true) (e : b.length = a.length) : ∀ k ∈ a, 0 ≤ k ∧ k < b.length := fun k hk => by
  rw [e]
  exact tOk_mem ha hk
theorem pow_add {a : List Int} (h : tOk a = true) (i : Nat) : ∀ j, putL (powL a i) (powL a j) = powL a (i + j)
  | 0 => by
    show putL (powL a i) (rgL a.length) = _
    rw [← len_pow a i, put_rg]
    rfl
  | j + 1 => by
    show putL (powL a i) (putL (powL a j) a) = putL (powL a (i + j)) a
    rw [← put_assoc (inB h (len_pow a j)), pow_add h i j]
theorem pow_round {a : List Int} (h : tOk a = true) (r : Nat) : ∀ q, powL a (r + ordL a * q) = powL a r
  | 0 => rfl
  | q + 1 => by
    have e : r + ordL a * (q + 1) = (r + ordL a * q) + ordL a := by rw [Nat.mul_succ, Nat.add_assoc]
    rw [e, ← pow_add h, (known h).all, ← len_pow a (r + ordL a * q), put_rg, pow_round h r q]
theorem pow_mod {a : List Int} (h : tOk a = true) (k : Nat) : powL a (k % ordL a) = powL a k := by
  have := pow_round h (k % ordL a) (k / ordL a)
  rw [Nat.mod_add_div] at this
  exact this.symm
/-! ### an exchange of neighbours turns the sign about -/
def swapL (n i : Nat) : List Int := (rgL n).map fun k => if k = (i : Int) then k + 1 else if k = (i : Int) + 1 then k - 1 else k
def wprod (n : Nat) : List Nat → List Int
  | [] => rgL n
  | i :: w => putL (wprod n w) (swapL n i)
def wordL (n : Nat) : Nat → List Int → List Nat
  | 0, _ => []
  | f + 1, b => match (List.range (n - 1)).find? fun i => decide (b.getD (i + 1) 0 < b.getD i 0) with
    | some i => i :: wordL n f (putL b (swapL n i))
    | none => []
def chkS (a : List Int) : Bool := decide (wprod a.length (wordL a.length 10 a) = a) && ((wordL a.length 10 a).all fun i => decide (i + 1 < a.length)) && (List.range (a.length - 1)).all fun i => decide (signL (putL a (swapL a.length i)) = - signL a)
theorem chkS_all : allT.all chkS = true := by decide +kernel
theorem swap_all : ([2, 3, 4, 5].all fun n => decide (signL (rgL n) = 1) && (List.range (n - 1)).all fun i => tOk (swapL n i) && decide ((swapL n i).length = n)) = true := by decide +kernel
theorem n_in {n : Nat} (h2 : 2 ≤ n) (h5 : n ≤ 5) : n ∈ [2, 3, 4, 5] := by
  have : n = 2 ∨ n = 3 ∨ n = 4 ∨ n = 5 := by omega
  rcases this with rfl | rfl | rfl | rfl <;> decide
theorem swap_ok {n i : Nat} (h2 : 2 ≤ n) (h5 : n ≤ 5) (hi : i + 1 < n) : tOk (swapL n i) = true ∧ (swapL n i).length = n := by
  have := List.all_eq_true.mp swap_all n (n_in h2 h5)
  simp only [Bool.and_eq_true, decide_eq_true_eq, List.all_eq_true, List.mem_range] at this
  exact this.2 i (by omega)
theorem sgn_rg {n : Nat} (h2 : 2 ≤ n) (h5 : n ≤ 5) : signL (rgL n) = 1 := by
  have := List.all_eq_true.mp swap_all n (n_in h2 h5)
  simp only [Bool.and_eq_true, decide_eq_true_eq, List.all_eq_true, List.mem_range] at this
  exact this.1
theorem sgn_swap {a : List Int} (h : tOk a = true) {i : Nat} (hi : i + 1 < a.length) : signL (putL a (swapL a.length i)) = - signL a := by
  have c := List.all_eq_true.mp chkS_all a (mem_allT h)
  unfold chkS at c
  simp only [Bool.and_eq_true, decide_eq_true_eq, List.all_eq_true, List.mem_range] at c
  exact c.2 i (by omega)
theorem wprod_ok {n : Nat} (h2 : 2 ≤ n) (h5 : n ≤ 5) : ∀ w : List Nat, (∀ i ∈ w, i + 1 < n) → tOk (wprod n w) = true ∧ (wprod n w).length = n
  | [], _ => ⟨tOk_rg h2 h5, rgL_len n⟩
  | i :: w, h => by
    obtain ⟨t1, l1⟩ := wprod_ok h2 h5 w fun j hj => h j (List.mem_cons_of_mem _ hj)
    obtain ⟨t2, l2⟩ := swap_ok h2 h5 (h i (List.mem_cons_self ..))
    exact ⟨tOk_put t1 t2 (l1.trans l2.symm), (len_put _ _).trans l2⟩
def par (w : List Nat) : Int := w.foldr (fun _ t => -t) 1
theorem sgn_wprod {a : List Int} (h : tOk a = true) : ∀ w : List Nat, (∀ i ∈ w, i + 1 < a.length) → signL (putL a (wprod a.length w)) = par w * signL a
  | [], _ => by
    show signL (putL a (rgL a.length)) = 1 * signL a
    rw [put_rg, Int.one_mul]
  | i :: w, hw => by
    have hn := (tOk_iff.mp h).1
    have hi := hw i (List.mem_cons_self ..)
    have hw' := fun j hj => hw j (List.mem_cons_of_mem i hj)
    obtain ⟨t1, l1⟩ := wprod_ok hn.1 hn.2 w hw'
    obtain ⟨t2, l2⟩ := swap_ok hn.1 hn.2 hi
    show signL (putL a (putL (wprod a.length w) (swapL a.length i))) = -(par w) * signL a
    rw [← put_assoc (inB t2 (l1.trans l2.symm))]
    have l3 : (putL a (wprod a.length w)).length = a.length := (len_put _ _).trans l1
    have := sgn_swap (tOk_put h t1 l1.symm) (i := i) (by rw [l3]; exact hi)
    rw [l3] at this
    rw [this, sgn_wprod h w hw', Int.neg_mul]
theorem sgn_put {a b : List Int} (ha : tOk a = true) (hb : tOk b = true) (e : a.length = b.length) : signL (putL a b) = signL a * signL b := by
  have hn := (tOk_iff.mp hb).1
  have c := List.all_eq_true.mp chkS_all b (mem_allT hb)
  unfold chkS at c
  simp only [Bool.and_eq_true, decide_eq_true_eq, List.all_eq_true, List.mem_range] at c
  obtain ⟨⟨c1, c2⟩, _⟩ := c
  have s1 := sgn_wprod ha (wordL b.length 10 b) (by rw [e]; exact c2)
  have s2 := sgn_wprod (tOk_rg hn.1 hn.2) (wordL b.length 10 b) (by rw [rgL_len]; exact c2)
  rw [rgL_len, c1, sgn_rg hn.1 hn.2, rg_put (fun k hk => tOk_mem hb hk), Int.mul_one] at s2
  rw [e, c1] at s1
  rw [s1, s2, Int.mul_comm]
/-! ### put about -/
def aboutL (b a : List Int) : List Int := putL (putL b a) (backL b)
theorem about_pow {a b : List Int} (ha : tOk a = true) (hb : tOk b = true) (e : a.length = b.length) : ∀ k, powL (aboutL b a) k = putL (putL b (powL a k)) (backL b)
  | 0 => by
    have el : (aboutL b a).length = b.length := (len_put _ _).trans (len_back b)
    show rgL (aboutL b a).length = putL (putL b (rgL a.length)) (backL b)
    rw [el, e, put_rg, put_back hb]
  | k + 1 => by
    have tb := tOk_back hb
    have lb := len_back b
    have lp := len_pow a k
    have tp := tOk_pow ha k
    have l1 : (putL b (powL a k)).length = b.length := (len_put _ _).trans (lp.trans e)
    show putL (powL (aboutL b a) k) (aboutL b a) = putL (putL b (putL (powL a k) a)) (backL b)
    rw [about_pow ha hb e k]
    unfold aboutL
    have l2 : (putL b a).length = b.length := (len_put _ _).trans e
    rw [← put_assoc (a := putL (putL b (powL a k)) (backL b)) (inB tb (l2.trans lb.symm))]
    congr 1
    rw [put_assoc (inB (tOk_put hb ha e.symm) (by rw [lb, l2])), ← put_assoc (a := backL b) (inB ha e.symm), back_put hb, ← e, rg_put (inB ha rfl |> fun h k hk => h k hk), put_assoc (inB ha lp)]
theorem rg_len_eq {a b : List Int} (h : a.length = b.length) : rgL a.length = rgL b.length := by rw [h]
theorem about_one {b p : List Int} (hb : tOk b = true) (hp : tOk p = true) (e : p.length = b.length) (h : putL (putL b p) (backL b) = rgL b.length) : p = rgL p.length := by
  have tb := tOk_back hb
  have lb := len_back b
  have lp : (putL b p).length = b.length := (len_put _ _).trans e
  have h1 : putL (putL (putL b p) (backL b)) b = putL (rgL b.length) b := by rw [h]
  rw [put_assoc (inB hb lb), back_put hb, rg_put (inB hb rfl), ← lp, put_rg] at h1
  have h2 : putL (backL b) (putL b p) = putL (backL b) b := by rw [h1]
  rw [← put_assoc (inB hp e.symm), back_put hb, rg_put (fun k hk => by rw [← e]; exact tOk_mem hp hk)] at h2
  rw [h2, rgL_len]
theorem about_ord {a b : List Int} (ha : tOk a = true) (hb : tOk b = true) (e : a.length = b.length) : ordL (aboutL b a) = ordL a := by
  have el : (aboutL b a).length = b.length := (len_put _ _).trans (len_back b)
  have : (fun k => decide (powL (aboutL b a) k = rgL (aboutL b a).length)) = fun k => decide (powL a k = rgL a.length) := by
    funext k
    rw [about_pow ha hb e, el]
    by_cases h : powL a k = rgL a.length
    · rw [decide_eq_true h, h, e, put_rg, put_back hb, decide_eq_true rfl]
    · rw [decide_eq_false h, decide_eq_false]
      intro q
      have := about_one hb (tOk_pow ha k) ((len_pow a k).trans e) q
      rw [len_pow] at this
      exact h this
  unfold ordL
  rw [this]
/-! ### led on -/
theorem led_mod {row : List Int} {n m : Int} (h : ∀ k : Int, (k + n).fmod row.length = (k + m).fmod row.length) : ∀ ks f, ledIn row n ks f = ledIn row m ks f
  | [], f => rfl
  | k :: ks, f => by
    show ledIn row n ks _ = ledIn row m ks _
    rw [h, led_mod h]
theorem led_out {n m : Int} : ∀ (c : List (List Int)) f, (∀ r ∈ c, ∀ k : Int, (k + n).fmod r.length = (k + m).fmod r.length) → ledOut n c f = ledOut m c f
  | [], f, _ => rfl
  | r :: c, f, h => by
    show ledOut n c (ledIn r n _ f) = ledOut m c (ledIn r m _ f)
    rw [led_mod (h r (List.mem_cons_self ..)), led_out c _ fun r' hr => h r' (List.mem_cons_of_mem _ hr)]
theorem led_all {a : List Int} (h : tOk a = true) (n : Int) : powL a (n.fmod (ordL a)).toNat = ledL (cycL a) a.length n := by
  have k := known h
  have hp : (0 : Int) < ordL a := by have := k.pos.1; omega
  obtain ⟨m0, m1⟩ := fmod_lt (a := n) hp
  have e := k.led (n.fmod (ordL a)).toNat (by omega)
  rw [← e, Int.toNat_of_nonneg m0]
  unfold ledL
  refine led_out _ _ fun r hr j => ?_
  have hr2 := List.all_eq_true.mp k.rnd r hr
  have hd : ordL a % r.length = 0 := of_decide_eq_true hr2
  have hd2 : ((r.length : Nat) : Int) ∣ ((ordL a : Nat) : Int) := Int.natCast_dvd_natCast.mpr (Nat.dvd_of_mod_eq_zero hd)
  rw [Int.fmod_eq_emod_of_nonneg _ (by omega), Int.fmod_eq_emod_of_nonneg _ (by omega), Int.fmod_eq_emod_of_nonneg _ (by omega)]
  rw [Int.add_emod, Int.emod_emod_of_dvd _ hd2, ← Int.add_emod]
end TC

set_option Elab.async false
set_option linter.all false
set_option maxRecDepth 100000
set_option maxHeartbeats 4000000
namespace TC
open PySem PySem.Spec PyProof.Rows L2
theorem int_tI {a c : List Int} (h : tI a = tI c) : a = c := by
  have := congrArg (fun x => match x with | D.tup ds => nums ds | _ => none) h
  exact Option.some.inj ((nums_ints a).symm.trans (this.trans (nums_ints c)))
theorem wh_put {A : Adr} {a b : List Int} {Q : D → Prop} {Z : Addr → Prop} (ha : ∀ k ∈ b, 0 ≤ k ∧ k < a.length) (hb : b.length ≤ 1000) (q : Q (tI (putL a b))) : pures [tI a, tI b] = true ∧ sp_put A [tI a, tI b] Q Z :=
  ⟨pures2 a b, a, b, rfl, ha, hb, q⟩
theorem pure_order (K : PySem.W.Frag) (A : Adr) (ds : List D) (R : D → Prop) (Z : Addr → Prop) (hl : ds.length = 1) (h : sp_order A ds R Z) : w_order K A (gam0 4 ds) [] (Pt R Z) := by
  obtain ⟨x, rfl, ok, r, z⟩ := h
  simp only [w_order, wSeq, wNext, wRet, wDrop, wAsg, wPar, wIf, wBrk, wCnt, wRaise, wIte, wAndV, wOrV, wNotV, wNeg, wAnd, wOr, wNot, wTest, wCB, wCons, wNil, wVar, wC, wBin, wTup, wLst, wLstM, wFrz, wIsN, wOrL, wDict0, wIt, wRng1, wRng2, wMeth, wMethT, wNoP, wPt, wSl, wRev, wRgs, fTupR, fLstR, fLstRM, rgM, wCall, wYes, bOf, gam0, List.map_cons, List.map_nil, List.length_cons, List.length_nil, List.replicate, List.cons_append, List.nil_append, List.append_nil, List.getElem?_cons_zero, List.getElem?_cons_succ, List.set_cons_zero, List.set_cons_succ, Nat.add_sub_cancel, Nat.sub_self, Nat.sub_zero, Nat.reduceAdd, Nat.reduceSub, Nat.zero_add, if_true, if_false, Bool.false_eq_true, Bool.not_true, Bool.not_false, true_and, and_true, pures, D.pure, Bool.and_true, Bool.true_and]
  refine ⟨okT_pure ok, x, rfl, ok, fun hx => ?_, z⟩
  obtain ⟨a, rfl, ta, la⟩ := sizeOf_turn hx
  have k := known ta
  have hn := (tOk_iff.mp ta).1
  rw [la]
  refine ⟨rfl, plain_it hn.1 hn.2 ?_⟩
  refine ⟨fun m Γ μ => ∃ j, 1 ≤ j ∧ j + m = ordL a ∧ Γ = [some (tI a), some (tI (rgL a.length)), some (tI (powL a j)), some (.int j)] ∧ μ = [], ordL a - 1, ⟨1, by omega, by have := k.pos.1; omega, ?_, rfl⟩, ?_⟩
  · have e : powL a 1 = a := rg_put (fun k hk => tOk_mem ta hk)
    rw [e]
    rfl
  · rintro m Γ μ ⟨j, j1, jm, rfl, rfl⟩
    simp only [wSeq, wNext, wRet, wDrop, wAsg, wPar, wIf, wBrk, wCnt, wRaise, wIte, wAndV, wOrV, wNotV, wNeg, wAnd, wOr, wNot, wTest, wCB, wCons, wNil, wVar, wC, wBin, wTup, wLst, wLstM, wFrz, wIsN, wOrL, wDict0, wIt, wRng1, wRng2, wMeth, wMethT, wNoP, wPt, wSl, wRev, wRgs, fTupR, fLstR, fLstRM, rgM, wCall, wYes, bOf, gam0, List.map_cons, List.map_nil, List.length_cons, List.length_nil, List.replicate, List.cons_append, List.nil_append, List.append_nil, List.getElem?_cons_zero, List.getElem?_cons_succ, List.set_cons_zero, List.set_cons_succ, Nat.add_sub_cancel, Nat.sub_self, Nat.sub_zero, Nat.reduceAdd, Nat.reduceSub, Nat.zero_add, if_true, if_false, Bool.false_eq_true, Bool.not_true, Bool.not_false, true_and, and_true, Bool.and_true, Bool.true_and]
    refine dNe_if (eqOk_tI _) (eqOk_tI _) ?_
    show if (!deq (tI (powL a j)) (tI (rgL a.length))) = true then _ else _
    rw [deq_tI]
    by_cases e : powL a j = rgL a.length
    · rw [decide_eq_true e]
      have : m = 0 := by
        rcases Nat.eq_zero_or_pos m with h | h
        · exact h
        · exact (k.first j j1 (by omega) e).elim
      have ej : j = ordL a := by omega
      rw [ej]
      exact ⟨rfl, r a rfl ta⟩
    · rw [decide_eq_false e]
      have hm : m ≠ 0 := fun h => e (by
        have : j = ordL a := by omega
        rw [this]
        exact k.all)
      refine wh_put (a := powL a j) (b := a) (fun i hi => ?_) (by omega) ?_
      · rw [len_pow]
        exact tOk_mem ta hi
      · simp only [wAug, iAdd, fI, fT, wSeq, wNext, wRet, wDrop, wAsg, wPar, wIf, wBrk, wCnt, wRaise, wIte, wAndV, wOrV, wNotV, wNeg, wAnd, wOr, wNot, wTest, wCB, wCons, wNil, wVar, wC, wBin, wTup, wLst, wLstM, wFrz, wIsN, wOrL, wDict0, wIt, wRng1, wRng2, wMeth, wMethT, wNoP, wPt, wSl, wRev, wRgs, fTupR, fLstR, fLstRM, rgM, wCall, wYes, bOf, gam0, List.map_cons, List.map_nil, List.length_cons, List.length_nil, List.replicate, List.cons_append, List.nil_append, List.append_nil, List.getElem?_cons_zero, List.getElem?_cons_succ, List.set_cons_zero, List.set_cons_succ, Nat.add_sub_cancel, Nat.sub_self, Nat.sub_zero, Nat.reduceAdd, Nat.reduceSub, Nat.zero_add, if_true, if_false, Bool.false_eq_true, Bool.not_true, Bool.not_false, true_and, and_true, Bool.and_true, Bool.true_and]
        exact ⟨m - 1, by omega, j + 1, by omega, by omega, rfl⟩
theorem pure_times (K : PySem.W.Frag) (A : Adr) (ds : List D) (R : D → Prop) (Z : Addr → Prop) (hl : ds.length = 2) (h : sp_times A ds R Z) : w_times K A (gam0 5 ds) [] (Pt R Z) := by
  obtain ⟨x, n, rfl, ok, r, z⟩ := h
  simp only [w_times, wFor, wSeq, wNext, wRet, wDrop, wAsg, wPar, wIf, wBrk, wCnt, wRaise, wIte, wAndV, wOrV, wNotV, wNeg, wAnd, wOr, wNot, wTest, wCB, wCons, wNil, wVar, wC, wBin, wTup, wLst, wLstM, wFrz, wIsN, wOrL, wDict0, wIt, wRng1, wRng2, wMeth, wMethT, wNoP, wPt, wSl, wRev, wRgs, fTupR, fLstR, fLstRM, rgM, wCall, wYes, bOf, gam0, List.map_cons, List.map_nil, List.length_cons, List.length_nil, List.replicate, List.cons_append, List.nil_append, List.append_nil, List.getElem?_cons_zero, List.getElem?_cons_succ, List.set_cons_zero, List.set_cons_succ, Nat.add_sub_cancel, Nat.sub_self, Nat.sub_zero, Nat.reduceAdd, Nat.reduceSub, Nat.zero_add, if_true, if_false, Bool.false_eq_true, Bool.not_true, Bool.not_false, true_and, and_true, pures, D.pure, Bool.and_true, Bool.true_and]
  refine ⟨okT_pure ok, x, rfl, ok, fun a e ta => ?_, z⟩
  subst e
  have k := known ta
  have hn := (tOk_iff.mp ta).1
  have r := r a rfl ta
  obtain ⟨m0, m1⟩ := fmod_lt (a := n) (b := ordL a) (by have := k.pos.1; omega)
  simp only [dMod, fI, wSeq, wNext, wRet, wDrop, wAsg, wPar, wIf, wBrk, wCnt, wRaise, wIte, wAndV, wOrV, wNotV, wNeg, wAnd, wOr, wNot, wTest, wCB, wCons, wNil, wVar, wC, wBin, wTup, wLst, wLstM, wFrz, wIsN, wOrL, wDict0, wIt, wRng1, wRng2, wMeth, wMethT, wNoP, wPt, wSl, wRev, wRgs, fTupR, fLstR, fLstRM, rgM, wCall, wYes, bOf, gam0, List.map_cons, List.map_nil, List.length_cons, List.length_nil, List.replicate, List.cons_append, List.nil_append, List.append_nil, List.getElem?_cons_zero, List.getElem?_cons_succ, List.set_cons_zero, List.set_cons_succ, Nat.add_sub_cancel, Nat.sub_self, Nat.sub_zero, Nat.reduceAdd, Nat.reduceSub, Nat.zero_add, if_true, if_false, Bool.false_eq_true, Bool.not_true, Bool.not_false, true_and, and_true, pures, D.pure, Bool.and_true, Bool.true_and]
  refine ⟨by have := k.pos.1; omega, ?_⟩
  simp only [dLen, items, tI, List.length_map, wSeq, wNext, wRet, wDrop, wAsg, wPar, wIf, wBrk, wCnt, wRaise, wIte, wAndV, wOrV, wNotV, wNeg, wAnd, wOr, wNot, wTest, wCB, wCons, wNil, wVar, wC, wBin, wTup, wLst, wLstM, wFrz, wIsN, wOrL, wDict0, wIt, wRng1, wRng2, wMeth, wMethT, wNoP, wPt, wSl, wRev, wRgs, fTupR, fLstR, fLstRM, rgM, wCall, wYes, bOf, gam0, List.map_cons, List.map_nil, List.length_cons, List.length_nil, List.replicate, List.cons_append, List.nil_append, List.append_nil, List.getElem?_cons_zero, List.getElem?_cons_succ, List.set_cons_zero, List.set_cons_succ, Nat.add_sub_cancel, Nat.sub_self, Nat.sub_zero, Nat.reduceAdd, Nat.reduceSub, Nat.zero_add, if_true, if_false, Bool.false_eq_true, Bool.not_true, Bool.not_false, true_and, and_true, pures, D.pure, Bool.and_true, Bool.true_and]
  refine plain_it hn.1 hn.2 ?_
  obtain ⟨m, hm⟩ : ∃ m : Nat, n.fmod (ordL a) = m := ⟨(n.fmod (ordL a)).toNat, by omega⟩
  rw [hm] at r m1 ⊢
  rw [Int.toNat_natCast] at r
  have hm6 := k.pos.2
  refine ⟨by unfold rgOk; omega, ?_⟩
  refine wForL_go (fun xs Γ μ => ∃ j d4, j + xs.length = m ∧ Γ = [some (tI a), some (.int n), some (.int m), some (tI (powL a j)), d4] ∧ μ = []) ?_ ?_ _ _ _ ⟨0, none, by rw [rgD_rgL, List.length_map, rgL_len, Nat.zero_add], rfl, rfl⟩
  · rintro Γ μ ⟨j, d4, e, rfl, rfl⟩
    have : j = m := e
    subst this
    exact ⟨pure_tI _, r⟩
  · rintro x xs Γ μ ⟨j, d4, e, rfl, rfl⟩ nx hnx
    simp only [wSeq, wNext, wRet, wDrop, wAsg, wPar, wIf, wBrk, wCnt, wRaise, wIte, wAndV, wOrV, wNotV, wNeg, wAnd, wOr, wNot, wTest, wCB, wCons, wNil, wVar, wC, wBin, wTup, wLst, wLstM, wFrz, wIsN, wOrL, wDict0, wIt, wRng1, wRng2, wMeth, wMethT, wNoP, wPt, wSl, wRev, wRgs, fTupR, fLstR, fLstRM, rgM, wCall, wYes, bOf, gam0, List.map_cons, List.map_nil, List.length_cons, List.length_nil, List.replicate, List.cons_append, List.nil_append, List.append_nil, List.getElem?_cons_zero, List.getElem?_cons_succ, List.set_cons_zero, List.set_cons_succ, Nat.add_sub_cancel, Nat.sub_self, Nat.sub_zero, Nat.reduceAdd, Nat.reduceSub, Nat.zero_add, if_true, if_false, Bool.false_eq_true, Bool.not_true, Bool.not_false, true_and, and_true, Bool.and_true, Bool.true_and]
    refine wh_put (a := powL a j) (b := a) (fun i hi => ?_) (by omega) ?_
    · rw [len_pow]
      exact tOk_mem ta hi
    · exact hnx _ _ ⟨j + 1, _, by rw [List.length_cons] at e; omega, rfl, rfl⟩
theorem pure_sign (K : PySem.W.Frag) (A : Adr) (ds : List D) (R : D → Prop) (Z : Addr → Prop) (hl : ds.length = 1) (h : sp_sign A ds R Z) : w_sign K A (gam0 5 ds) [] (Pt R Z) := by
  obtain ⟨x, rfl, ok, r, z⟩ := h
  simp only [w_sign, wFor, wSeq, wNext, wRet, wDrop, wAsg, wPar, wIf, wBrk, wCnt, wRaise, wIte, wAndV, wOrV, wNotV, wNeg, wAnd, wOr, wNot, wTest, wCB, wCons, wNil, wVar, wC, wBin, wTup, wLst, wLstM, wFrz, wIsN, wOrL, wDict0, wIt, wRng1, wRng2, wMeth, wMethT, wNoP, wPt, wSl, wRev, wRgs, fTupR, fLstR, fLstRM, rgM, wCall, wYes, bOf, gam0, List.map_cons, List.map_nil, List.length_cons, List.length_nil, List.replicate, List.cons_append, List.nil_append, List.append_nil, List.getElem?_cons_zero, List.getElem?_cons_succ, List.set_cons_zero, List.set_cons_succ, Nat.add_sub_cancel, Nat.sub_self, Nat.sub_zero, Nat.reduceAdd, Nat.reduceSub, Nat.zero_add, if_true, if_false, Bool.false_eq_true, Bool.not_true, Bool.not_false, true_and, and_true, pures, D.pure, Bool.and_true, Bool.true_and]
  refine ⟨okT_pure ok, x, rfl, ok, fun hx => ?_, z⟩
  obtain ⟨a, rfl, ta, la⟩ := sizeOf_turn hx
  have hn := (tOk_iff.mp ta).1
  have r := r a rfl ta
  rw [la]
  refine ⟨by unfold rgOk; omega, ?_⟩
  rw [rgD_rgL]
  have ent : ∀ i : Int, 0 ≤ i → i < a.length → atI (a.map D.int) i = some (.int (a.getD i.toNat 0)) := fun i i0 i1 => atI_in i0 (getD_map i0 i1)
  refine wForL_go (fun xs Γ μ => ∃ (hs : List Int) (t : Int) (d3 d4 : Option D), xs = hs.map D.int ∧ (∀ h ∈ hs, 0 ≤ h ∧ h < a.length) ∧ signOut a hs t = signL a ∧ Γ = [some (tI a), some (.int a.length), some (.int t), d3, d4] ∧ μ = []) ?_ ?_ _ _ _ ⟨rgL a.length, 1, none, none, rfl, fun h hh => rgL_mem.mp hh, rfl, rfl, rfl⟩
  · rintro Γ μ ⟨hs, t, d3, d4, e, _, es, rfl, rfl⟩
    have : hs = [] := List.map_eq_nil_iff.mp e.symm
    subst this
    have es : t = signL a := es
    rw [es]
    exact ⟨rfl, r⟩
  · rintro x xs Γ μ ⟨hs, t, d3, d4, e, hb, es, rfl, rfl⟩ nx hnx
    cases hs with
    | nil => cases e
    | cons h hs =>
      cases e
      obtain ⟨h0, h1⟩ := hb h (List.mem_cons_self ..)
      obtain ⟨h, rfl⟩ : ∃ n : Nat, h = n := ⟨h.toNat, by omega⟩
      simp only [wFor, wSeq, wNext, wRet, wDrop, wAsg, wPar, wIf, wBrk, wCnt, wRaise, wIte, wAndV, wOrV, wNotV, wNeg, wAnd, wOr, wNot, wTest, wCB, wCons, wNil, wVar, wC, wBin, wTup, wLst, wLstM, wFrz, wIsN, wOrL, wDict0, wIt, wRng1, wRng2, wMeth, wMethT, wNoP, wPt, wSl, wRev, wRgs, fTupR, fLstR, fLstRM, rgM, wCall, wYes, bOf, gam0, List.map_cons, List.map_nil, List.length_cons, List.length_nil, List.replicate, List.cons_append, List.nil_append, List.append_nil, List.getElem?_cons_zero, List.getElem?_cons_succ, List.set_cons_zero, List.set_cons_succ, Nat.add_sub_cancel, Nat.sub_self, Nat.sub_zero, Nat.reduceAdd, Nat.reduceSub, Nat.zero_add, if_true, if_false, Bool.false_eq_true, Bool.not_true, Bool.not_false, true_and, and_true, pures, D.pure, Bool.and_true, Bool.true_and]
      refine ⟨by unfold rgOk; omega, ?_⟩
      rw [rgD_rgL]
      refine wForL_go (fun xs Γ μ => ∃ (ls : List Int) (t : Int) (d4 : Option D), xs = ls.map D.int ∧ (∀ l ∈ ls, 0 ≤ l ∧ l < h) ∧ signOut a hs (signIn a h ls t) = signL a ∧ Γ = [some (tI a), some (.int a.length), some (.int t), some (.int h), d4] ∧ μ = []) ?_ ?_ _ _ _ ⟨rgL h, t, _, rfl, fun l hl => rgL_mem.mp hl, es, rfl, rfl⟩
      · rintro Γ μ ⟨ls, t, d4, e, _, es, rfl, rfl⟩
        have : ls = [] := List.map_eq_nil_iff.mp e.symm
        subst this
        exact hnx _ _ ⟨hs, t, _, _, rfl, fun j hj => hb j (List.mem_cons_of_mem _ hj), es, rfl, rfl⟩
      · rintro x xs Γ μ ⟨ls, t, d4, e, hc, es, rfl, rfl⟩ nx2 hnx2
        cases ls with
        | nil => cases e
        | cons l ls =>
          cases e
          obtain ⟨l0, l1⟩ := hc l (List.mem_cons_self ..)
          simp only [dIx, items, tI, ent l l0 (by omega), ent h h0 h1, dGt, fI, fT, wSeq, wNext, wRet, wDrop, wAsg, wPar, wIf, wBrk, wCnt, wRaise, wIte, wAndV, wOrV, wNotV, wNeg, wAnd, wOr, wNot, wTest, wCB, wCons, wNil, wVar, wC, wBin, wTup, wLst, wLstM, wFrz, wIsN, wOrL, wDict0, wIt, wRng1, wRng2, wMeth, wMethT, wNoP, wPt, wSl, wRev, wRgs, fTupR, fLstR, fLstRM, rgM, wCall, wYes, bOf, gam0, List.map_cons, List.map_nil, List.length_cons, List.length_nil, List.replicate, List.cons_append, List.nil_append, List.append_nil, List.getElem?_cons_zero, List.getElem?_cons_succ, List.set_cons_zero, List.set_cons_succ, Nat.add_sub_cancel, Nat.sub_self, Nat.sub_zero, Nat.reduceAdd, Nat.reduceSub, Nat.zero_add, if_true, if_false, Bool.false_eq_true, Bool.not_true, Bool.not_false, true_and, and_true, pures, D.pure, Bool.and_true, Bool.true_and]
          have es : signOut a hs (signIn a h ls (if a.getD (h : Int).toNat 0 < a.getD l.toNat 0 then -t else t)) = signL a := es
          by_cases c : a.getD (h : Int).toNat 0 < a.getD l.toNat 0
          · rw [if_pos c] at es
            rw [decide_eq_true c, if_pos rfl]
            exact hnx2 _ _ ⟨ls, -t, _, rfl, fun j hj => hc j (List.mem_cons_of_mem _ hj), es, rfl, rfl⟩
          · rw [if_neg c] at es
            rw [decide_eq_false c, if_neg (by decide)]
            exact hnx2 _ _ ⟨ls, t, _, rfl, fun j hj => hc j (List.mem_cons_of_mem _ hj), es, rfl, rfl⟩
theorem pure_law_whole (K : PySem.W.Frag) (A : Adr) (ds : List D) (R : D → Prop) (Z : Addr → Prop) (hl : ds.length = 2) (h : sp_law_whole A ds R Z) : w_law_whole K A (gam0 2 ds) [] (Pt R Z) := by
  obtain ⟨i, j, rfl, r⟩ := h
  simp only [w_law_whole, dIsi, res, tyN, isi, dEq, eqOk_int, deq_int, wSeq, wNext, wRet, wDrop, wAsg, wPar, wIf, wBrk, wCnt, wRaise, wIte, wAndV, wOrV, wNotV, wNeg, wAnd, wOr, wNot, wTest, wCB, wCons, wNil, wVar, wC, wBin, wTup, wLst, wLstM, wFrz, wIsN, wOrL, wDict0, wIt, wRng1, wRng2, wMeth, wMethT, wNoP, wPt, wSl, wRev, wRgs, fTupR, fLstR, fLstRM, rgM, wCall, wYes, bOf, gam0, List.map_cons, List.map_nil, List.length_cons, List.length_nil, List.replicate, List.cons_append, List.nil_append, List.append_nil, List.getElem?_cons_zero, List.getElem?_cons_succ, List.set_cons_zero, List.set_cons_succ, Nat.add_sub_cancel, Nat.sub_self, Nat.sub_zero, Nat.reduceAdd, Nat.reduceSub, Nat.zero_add, if_true, if_false, Bool.false_eq_true, Bool.not_true, Bool.not_false, true_and, and_true, pures, D.pure, Bool.and_true, Bool.true_and]
  exact ⟨rfl, rfl, r⟩
end TC

set_option Elab.async false
set_option linter.all false
set_option maxRecDepth 100000
set_option maxHeartbeats 4000000
namespace TC
open PySem PySem.Spec PyProof.Rows L2
/-! ### cycles -/
theorem any_ints (ns : List Int) (k : Int) : ((ns.map D.int).any fun z => deq z (.int k)) = ns.contains k := by
  induction ns with
  | nil => rfl
  | cons n ns ih =>
    rw [List.map_cons, List.any_cons, ih, deq_int, List.contains_cons]
    congr 1
    by_cases h : n = k
    · subst h; simp
    · rw [decide_eq_false h]
      exact (beq_eq_false_iff_ne.mpr fun e => h e.symm).symm
theorem flat_ints (ns : List Int) : ((ns.map D.int).all flatD) = true := by
  rw [List.all_eq_true]
  intro d hd
  obtain ⟨m, _, rfl⟩ := List.mem_map.mp hd
  rfl
theorem set_last {x y : Cell} (r : Mem) : (r ++ [x]).set r.length y = r ++ [y] := by
  simp
theorem contains_mem {ns : List Int} {k : Int} : ns.contains k = true ↔ k ∈ ns := List.contains_iff_mem
theorem mem_of_full {sn : List Int} {n : Nat} (nd : sn.Nodup) (inn : ∀ i ∈ sn, i ∈ rgL n) (h : n ≤ sn.length) : ∀ i ∈ rgL n, i ∈ sn := fun i hi =>
  (perm_of_sub nd inn (by rw [rgL_len]; exact h)).mem_iff.mpr hi
theorem pures_rows (c : List (List Int)) : pures (c.map rowD) = true := pures_of fun d h => by
  obtain ⟨r, _, rfl⟩ := List.mem_map.mp h
  exact pures_ints r
theorem pure_law_cycles (K : PySem.W.Frag) (A : Adr) (ds : List D) (R : D → Prop) (Z : Addr → Prop) (hl : ds.length = 1) (h : sp_law_cycles A ds R Z) : w_law_cycles K A (gam0 6 ds) [] (Pt R Z) := by
  obtain ⟨a, rfl, ta, r⟩ := h
  have hn := (tOk_iff.mp ta).1
  have ent : ∀ i : Int, 0 ≤ i → i < a.length → atI (a.map D.int) i = some (.int (a.getD i.toNat 0)) := fun i i0 i1 => atI_in i0 (getD_map i0 i1)
  have entr : ∀ i : Int, 0 ≤ i → i < a.length → 0 ≤ a.getD i.toNat 0 ∧ a.getD i.toNat 0 < a.length := fun i i0 i1 => by
    have hl : i.toNat < a.length := by omega
    rw [List.getD_eq_getElem?_getD, List.getElem?_eq_getElem hl]
    exact tOk_mem ta (List.getElem_mem hl)
  simp only [w_law_cycles, wFor, tI, dLen, items, List.length_map, wSeq, wNext, wRet, wDrop, wAsg, wPar, wIf, wBrk, wCnt, wRaise, wIte, wAndV, wOrV, wNotV, wNeg, wAnd, wOr, wNot, wTest, wCB, wCons, wNil, wVar, wC, wBin, wTup, wLst, wLstM, wFrz, wIsN, wOrL, wDict0, wIt, wRng1, wRng2, wMeth, wMethT, wNoP, wPt, wSl, wRev, wRgs, fTupR, fLstR, fLstRM, rgM, wCall, wYes, bOf, gam0, List.map_cons, List.map_nil, List.length_cons, List.length_nil, List.replicate, List.cons_append, List.nil_append, List.append_nil, List.getElem?_cons_zero, List.getElem?_cons_succ, List.set_cons_zero, List.set_cons_succ, Nat.add_sub_cancel, Nat.sub_self, Nat.sub_zero, Nat.reduceAdd, Nat.reduceSub, Nat.zero_add, if_true, if_false, Bool.false_eq_true, Bool.not_true, Bool.not_false, true_and, and_true, Bool.and_true, Bool.true_and]
  refine ⟨Nat.zero_le _, Nat.zero_le _, by unfold rgOk; omega, ?_⟩
  rw [rgD_rgL]
  refine wForL_go (fun xs Γ μ => ∃ (ss seen : List Int) (found : List (List Int)) (d1 d4 d5 : Option D) (rest : Mem), xs = ss.map D.int ∧ (∀ s ∈ ss, 0 ≤ s ∧ s < a.length) ∧ found.length + ss.length ≤ 5 ∧ (seen.Nodup ∧ ∀ i ∈ seen, i ∈ rgL a.length) ∧ cycOut a ss seen found = cycL a ∧
    Γ = [some (.tup (a.map D.int)), d1, some (.mt 0), some (.mt 1), d4, d5] ∧ μ = .lst (found.map rowD) :: .lst (seen.map D.int) :: rest) ?_ ?_ _ _ _ ⟨rgL a.length, [], [], _, _, _, [], rfl, fun s hs => rgL_mem.mp hs, by rw [rgL_len]; exact (by omega : 0 + a.length ≤ 5), ⟨List.nodup_nil, fun i h => by cases h⟩, rfl, rfl, rfl⟩
  · rintro Γ μ ⟨ss, seen, found, d1, d4, d5, rest, e, _, _, _, ec, rfl, rfl⟩
    have : ss = [] := List.map_eq_nil_iff.mp e.symm
    subst this
    have ec : found = cycL a := ec
    rw [ec]
    exact ⟨pures_rows _, r⟩
  · rintro x xs Γ μ ⟨ss, seen, found, d1, d4, d5, rest, e, hs, hlen, ⟨nd, inn⟩, ec, rfl, rfl⟩ nx hnx
    cases ss with
    | nil => cases e
    | cons s ss =>
      cases e
      obtain ⟨s0, s1⟩ := hs s (List.mem_cons_self ..)
      simp only [wSeq, wNext, wRet, wDrop, wAsg, wPar, wIf, wBrk, wCnt, wRaise, wIte, wAndV, wOrV, wNotV, wNeg, wAnd, wOr, wNot, wTest, wCB, wCons, wNil, wVar, wC, wBin, wTup, wLst, wLstM, wFrz, wIsN, wOrL, wDict0, wIt, wRng1, wRng2, wMeth, wMethT, wNoP, wPt, wSl, wRev, wRgs, fTupR, fLstR, fLstRM, rgM, wCall, wYes, bOf, gam0, List.map_cons, List.map_nil, List.length_cons, List.length_nil, List.replicate, List.cons_append, List.nil_append, List.append_nil, List.getElem?_cons_zero, List.getElem?_cons_succ, List.set_cons_zero, List.set_cons_succ, Nat.add_sub_cancel, Nat.sub_self, Nat.sub_zero, Nat.reduceAdd, Nat.reduceSub, Nat.zero_add, if_true, if_false, Bool.false_eq_true, Bool.not_true, Bool.not_false, true_and, and_true, Bool.and_true, Bool.true_and]
      refine ⟨Nat.zero_le _, ?_⟩
      refine ⟨fun m Γ μ => ∃ (sn row : List Int) (at_ : Int), (0 ≤ at_ ∧ at_ < a.length) ∧ (sn.Nodup ∧ ∀ i ∈ sn, i ∈ rgL a.length) ∧ row.length ≤ sn.length ∧ a.length ≤ sn.length + m ∧ cycIn a m sn row at_ = cycIn a a.length seen [] s ∧
        Γ = [some (.tup (a.map D.int)), some (.int s), some (.mt 0), some (.mt 1), some (.mt (rest.length + 2)), some (.int at_)] ∧ μ = .lst (found.map rowD) :: .lst (sn.map D.int) :: (rest ++ [.lst (row.map D.int)]),
        a.length, ⟨seen, [], s, ⟨s0, s1⟩, ⟨nd, inn⟩, Nat.zero_le _, by omega, rfl, rfl, rfl⟩, ?_⟩
      rintro m Γ μ ⟨sn, row, at_, ⟨a0, a1⟩, ⟨nd2, in2⟩, rl, ml, ei, rfl, rfl⟩
      simp only [dIn, items, any_ints, flat_ints, wSeq, wNext, wRet, wDrop, wAsg, wPar, wIf, wBrk, wCnt, wRaise, wIte, wAndV, wOrV, wNotV, wNeg, wAnd, wOr, wNot, wTest, wCB, wCons, wNil, wVar, wC, wBin, wTup, wLst, wLstM, wFrz, wIsN, wOrL, wDict0, wIt, wRng1, wRng2, wMeth, wMethT, wNoP, wPt, wSl, wRev, wRgs, fTupR, fLstR, fLstRM, rgM, wCall, wYes, bOf, gam0, List.map_cons, List.map_nil, List.length_cons, List.length_nil, List.replicate, List.cons_append, List.nil_append, List.append_nil, List.getElem?_cons_zero, List.getElem?_cons_succ, List.set_cons_zero, List.set_cons_succ, Nat.add_sub_cancel, Nat.sub_self, Nat.sub_zero, Nat.reduceAdd, Nat.reduceSub, Nat.zero_add, if_true, if_false, Bool.false_eq_true, Bool.not_true, Bool.not_false, true_and, and_true, Bool.and_true, Bool.true_and]
      have snl : sn.length ≤ a.length := by
        have := List.Nodup.length_le_of_subset nd2 in2
        rw [rgL_len] at this
        exact this
      refine ⟨rfl, ?_⟩
      have me := mem_of_full nd2 in2
      by_cases h : sn.contains at_ = true
      · rw [h, if_neg (by decide)]
        have ei2 : cycIn a m sn row at_ = (sn, row) := by
          cases m with
          | zero => rfl
          | succ m =>
            show (if sn.contains at_ = true then (sn, row) else _) = _
            rw [if_pos h]
        rw [ei2] at ei
        have ec : cycOut a ss (cycIn a a.length seen [] s).1 (if (cycIn a a.length seen [] s).2 = [] then found else found ++ [(cycIn a a.length seen [] s).2]) = cycL a := ec
        rw [← ei] at ec
        refine ⟨Nat.zero_le _, ?_⟩
        simp only [dNe, res, cellD, isLst, fFrz, dAppend, List.getElem?_concat_length, set_last, wSeq, wNext, wRet, wDrop, wAsg, wPar, wIf, wBrk, wCnt, wRaise, wIte, wAndV, wOrV, wNotV, wNeg, wAnd, wOr, wNot, wTest, wCB, wCons, wNil, wVar, wC, wBin, wTup, wLst, wLstM, wFrz, wIsN, wOrL, wDict0, wIt, wRng1, wRng2, wMeth, wMethT, wNoP, wPt, wSl, wRev, wRgs, fTupR, fLstR, fLstRM, rgM, wCall, wYes, bOf, gam0, List.map_cons, List.map_nil, List.length_cons, List.length_nil, List.replicate, List.cons_append, List.nil_append, List.append_nil, List.getElem?_cons_zero, List.getElem?_cons_succ, List.set_cons_zero, List.set_cons_succ, Nat.add_sub_cancel, Nat.sub_self, Nat.sub_zero, Nat.reduceAdd, Nat.reduceSub, Nat.zero_add, if_true, if_false, Bool.false_eq_true, Bool.not_true, Bool.not_false, true_and, and_true, Bool.and_true, Bool.true_and]
        refine ⟨⟨eqOk_lI row, eqOk_lI []⟩, ?_⟩
        have e0 : deq (.lst (row.map D.int)) (.lst []) = decide (row = []) := deq_lI row []
        rw [e0]
        have hs' := fun i hi => hs i (List.mem_cons_of_mem s hi)
        rw [List.length_cons] at hlen
        by_cases hr : row = []
        · have ec : cycOut a ss sn (if row = [] then found else found ++ [row]) = cycL a := ec
          rw [if_pos hr] at ec
          rw [decide_eq_true hr, if_neg (by decide)]
          exact hnx _ _ ⟨ss, sn, found, _, _, _, _, rfl, hs', by omega, ⟨nd2, in2⟩, ec, rfl, rfl⟩
        · have ec : cycOut a ss sn (if row = [] then found else found ++ [row]) = cycL a := ec
          rw [if_neg hr] at ec
          rw [decide_eq_false hr, if_pos (by decide)]
          refine ⟨by rw [List.length_map]; unfold big; omega, ?_⟩
          refine hnx _ _ ⟨ss, sn, found ++ [row], _, _, _, rest ++ [Cell.dead], rfl, hs', by rw [List.length_append]; simp only [List.length_cons, List.length_nil]; omega, ⟨nd2, in2⟩, ec, rfl, ?_⟩
          rw [List.map_append]
          rfl
      · have hm : at_ ∉ sn := fun z => h (contains_mem.mpr z)
        have hm0 : m ≠ 0 := fun e => hm (me (by omega) at_ (rgL_mem.mpr ⟨a0, a1⟩))
        rw [if_pos (by rw [Bool.not_eq_true] at h; rw [h]; rfl)]
        simp only [dAppend, isLst, dIx, items, ent at_ a0 a1, List.getElem?_concat_length, set_last, wSeq, wNext, wRet, wDrop, wAsg, wPar, wIf, wBrk, wCnt, wRaise, wIte, wAndV, wOrV, wNotV, wNeg, wAnd, wOr, wNot, wTest, wCB, wCons, wNil, wVar, wC, wBin, wTup, wLst, wLstM, wFrz, wIsN, wOrL, wDict0, wIt, wRng1, wRng2, wMeth, wMethT, wNoP, wPt, wSl, wRev, wRgs, fTupR, fLstR, fLstRM, rgM, wCall, wYes, bOf, gam0, List.map_cons, List.map_nil, List.length_cons, List.length_nil, List.replicate, List.cons_append, List.nil_append, List.append_nil, List.getElem?_cons_zero, List.getElem?_cons_succ, List.set_cons_zero, List.set_cons_succ, Nat.add_sub_cancel, Nat.sub_self, Nat.sub_zero, Nat.reduceAdd, Nat.reduceSub, Nat.zero_add, if_true, if_false, Bool.false_eq_true, Bool.not_true, Bool.not_false, true_and, and_true, Bool.and_true, Bool.true_and]
        obtain ⟨b0, b1⟩ := entr at_ a0 a1
        refine ⟨by rw [List.length_map]; unfold big; omega, by rw [List.length_map]; unfold big; omega, m - 1, by omega, sn ++ [at_], row ++ [at_], a.getD at_.toNat 0, ⟨b0, b1⟩, ⟨?_, ?_⟩, ?_, ?_, ?_, rfl, ?_⟩
        · rw [List.nodup_append]
          refine ⟨nd2, by simp, fun x hx y hy e => ?_⟩
          rw [List.mem_singleton.mp hy] at e
          exact hm (e ▸ hx)
        · intro i hi
          rcases List.mem_append.mp hi with hi | hi
          · exact in2 i hi
          · rw [List.mem_singleton.mp hi]
            exact rgL_mem.mpr ⟨a0, a1⟩
        · rw [List.length_append, List.length_append]
          omega
        · rw [List.length_append]
          simp only [List.length_cons, List.length_nil]
          omega
        · rw [← ei]
          obtain ⟨k, rfl⟩ : ∃ k, m = k + 1 := ⟨m - 1, by omega⟩
          show _ = if sn.contains at_ = true then (sn, row) else cycIn a k (sn ++ [at_]) (row ++ [at_]) (a.getD at_.toNat 0)
          rw [if_neg h]
          rfl
        · rw [List.map_append, List.map_append]
          rfl
/-! ### led on, come round, numbers -/
theorem cycOk_iff {c : List (List Int)} {n : Nat} (h : cycOk c n = true) : c.length ≤ 5 ∧ ∀ r ∈ c, (1 ≤ r.length ∧ r.length ≤ 5) ∧ ∀ x ∈ r, 0 ≤ x ∧ x < n := by
  unfold cycOk at h
  rw [Bool.and_eq_true, List.all_eq_true] at h
  refine ⟨of_decide_eq_true h.1, fun r hr => ?_⟩
  have := h.2 r hr
  rw [Bool.and_eq_true, List.all_eq_true] at this
  exact ⟨of_decide_eq_true this.1, fun x hx => of_decide_eq_true (this.2 x hx)⟩
theorem row_at {r : List Int} {k : Int} (h0 : 0 ≤ k) (h1 : k < r.length) : atI (r.map D.int) k = some (.int (r.getD k.toNat 0)) := atI_in h0 (getD_map h0 h1)
theorem row_in {r : List Int} {n : Nat} (h : ∀ x ∈ r, 0 ≤ x ∧ x < (n : Int)) {k : Int} (h0 : 0 ≤ k) (h1 : k < r.length) : 0 ≤ r.getD k.toNat 0 ∧ r.getD k.toNat 0 < n := by
  have hl : k.toNat < r.length := by omega
  rw [List.getD_eq_getElem?_getD, List.getElem?_eq_getElem hl]
  exact h _ (List.getElem_mem hl)
theorem pure_law_led_on (K : PySem.W.Frag) (A : Adr) (ds : List D) (R : D → Prop) (Z : Addr → Prop) (hl : ds.length = 3) (h : sp_law_led_on A ds R Z) : w_law_led_on K A (gam0 6 ds) [] (Pt R Z) := by
  obtain ⟨c, size, n, rfl, h5, hc, r⟩ := h
  obtain ⟨cl, cr⟩ := cycOk_iff hc
  simp only [w_law_led_on, wFor, cycD, itemsI, dMulM, wSeq, wNext, wRet, wDrop, wAsg, wPar, wIf, wBrk, wCnt, wRaise, wIte, wAndV, wOrV, wNotV, wNeg, wAnd, wOr, wNot, wTest, wCB, wCons, wNil, wVar, wC, wBin, wTup, wLst, wLstM, wFrz, wIsN, wOrL, wDict0, wIt, wRng1, wRng2, wMeth, wMethT, wNoP, wPt, wSl, wRev, wRgs, fTupR, fLstR, fLstRM, rgM, wCall, wYes, bOf, gam0, List.map_cons, List.map_nil, List.length_cons, List.length_nil, List.replicate, List.cons_append, List.nil_append, List.append_nil, List.getElem?_cons_zero, List.getElem?_cons_succ, List.set_cons_zero, List.set_cons_succ, Nat.add_sub_cancel, Nat.sub_self, Nat.sub_zero, Nat.reduceAdd, Nat.reduceSub, Nat.zero_add, if_true, if_false, Bool.false_eq_true, Bool.not_true, Bool.not_false, true_and, and_true, Bool.and_true, Bool.true_and]
  refine ⟨by unfold big; omega, ⟨by omega, by omega, by omega⟩, ?_⟩
  have e0 : (List.replicate (Int.toNat size) [D.int 0]).flatten = (List.replicate size (0 : Int)).map D.int := by
    rw [Int.toNat_natCast]
    clear r hc cr cl h5 hl
    induction size with
    | zero => rfl
    | succ k ih => rw [List.replicate_succ, List.flatten_cons, ih]; rfl
  rw [e0]
  refine wForL_go (fun xs Γ μ => ∃ (rows : List (List Int)) (f : List Int) (d4 d5 : Option D), xs = rows.map rowD ∧ (∀ r ∈ rows, r ∈ c) ∧ f.length = size ∧ ledOut n rows f = ledL c size n ∧
    Γ = [some (.lst (c.map rowD)), some (.int size), some (.int n), some (.mt 0), d4, d5] ∧ μ = [.lst (f.map D.int)]) ?_ ?_ _ _ _ ⟨c, List.replicate size 0, none, none, rfl, fun _ h => h, List.length_replicate, rfl, rfl, rfl⟩
  · rintro Γ μ ⟨rows, f, d4, d5, e, _, _, el, rfl, rfl⟩
    have : rows = [] := List.map_eq_nil_iff.mp e.symm
    subst this
    have el : f = ledL c size n := el
    simp only [dTupOf, items, wSeq, wNext, wRet, wDrop, wAsg, wPar, wIf, wBrk, wCnt, wRaise, wIte, wAndV, wOrV, wNotV, wNeg, wAnd, wOr, wNot, wTest, wCB, wCons, wNil, wVar, wC, wBin, wTup, wLst, wLstM, wFrz, wIsN, wOrL, wDict0, wIt, wRng1, wRng2, wMeth, wMethT, wNoP, wPt, wSl, wRev, wRgs, fTupR, fLstR, fLstRM, rgM, wCall, wYes, bOf, gam0, List.map_cons, List.map_nil, List.length_cons, List.length_nil, List.replicate, List.cons_append, List.nil_append, List.append_nil, List.getElem?_cons_zero, List.getElem?_cons_succ, List.set_cons_zero, List.set_cons_succ, Nat.add_sub_cancel, Nat.sub_self, Nat.sub_zero, Nat.reduceAdd, Nat.reduceSub, Nat.zero_add, if_true, if_false, Bool.false_eq_true, Bool.not_true, Bool.not_false, true_and, and_true, Bool.and_true, Bool.true_and]
    rw [el]
    exact ⟨pures_ints _, r⟩
  · rintro x xs Γ μ ⟨rows, f, d4, d5, e, hr, hf, el, rfl, rfl⟩ nx hnx
    cases rows with
    | nil => cases e
    | cons row rows =>
      cases e
      obtain ⟨⟨l1, l5⟩, hx⟩ := cr row (hr row (List.mem_cons_self ..))
      simp only [wFor, rowD, dLen, items, List.length_map, wSeq, wNext, wRet, wDrop, wAsg, wPar, wIf, wBrk, wCnt, wRaise, wIte, wAndV, wOrV, wNotV, wNeg, wAnd, wOr, wNot, wTest, wCB, wCons, wNil, wVar, wC, wBin, wTup, wLst, wLstM, wFrz, wIsN, wOrL, wDict0, wIt, wRng1, wRng2, wMeth, wMethT, wNoP, wPt, wSl, wRev, wRgs, fTupR, fLstR, fLstRM, rgM, wCall, wYes, bOf, gam0, List.map_cons, List.map_nil, List.length_cons, List.length_nil, List.replicate, List.cons_append, List.nil_append, List.append_nil, List.getElem?_cons_zero, List.getElem?_cons_succ, List.set_cons_zero, List.set_cons_succ, Nat.add_sub_cancel, Nat.sub_self, Nat.sub_zero, Nat.reduceAdd, Nat.reduceSub, Nat.zero_add, if_true, if_false, Bool.false_eq_true, Bool.not_true, Bool.not_false, true_and, and_true, Bool.and_true, Bool.true_and]
      refine ⟨by unfold rgOk; omega, ?_⟩
      rw [rgD_rgL]
      refine wForL_go (fun xs Γ μ => ∃ (ks f : List Int) (d5 : Option D), xs = ks.map D.int ∧ (∀ k ∈ ks, 0 ≤ k ∧ k < row.length) ∧ f.length = size ∧ ledOut n rows (ledIn row n ks f) = ledL c size n ∧
        Γ = [some (.lst (c.map rowD)), some (.int size), some (.int n), some (.mt 0), some (.lst (row.map D.int)), d5] ∧ μ = [.lst (f.map D.int)]) ?_ ?_ _ _ _ ⟨rgL row.length, f, _, rfl, fun k hk => rgL_mem.mp hk, hf, el, rfl, rfl⟩
      · rintro Γ μ ⟨ks, f, d5, e, _, hf, el, rfl, rfl⟩
        have : ks = [] := List.map_eq_nil_iff.mp e.symm
        subst this
        exact hnx _ _ ⟨rows, f, _, _, rfl, fun q hq => hr q (List.mem_cons_of_mem _ hq), hf, el, rfl, rfl⟩
      · rintro x xs Γ μ ⟨ks, f, d5, e, hk, hf, el, rfl, rfl⟩ nx2 hnx2
        cases ks with
        | nil => cases e
        | cons k ks =>
          cases e
          obtain ⟨k0, k1⟩ := hk k (List.mem_cons_self ..)
          obtain ⟨m0, m1⟩ := fmod_lt (a := k + n) (b := (row.length : Int)) (by omega)
          simp only [wSetL, dAdd, dMod, fI, dIx, items, dLen, List.length_map, row_at k0 k1, row_at m0 m1, wSeq, wNext, wRet, wDrop, wAsg, wPar, wIf, wBrk, wCnt, wRaise, wIte, wAndV, wOrV, wNotV, wNeg, wAnd, wOr, wNot, wTest, wCB, wCons, wNil, wVar, wC, wBin, wTup, wLst, wLstM, wFrz, wIsN, wOrL, wDict0, wIt, wRng1, wRng2, wMeth, wMethT, wNoP, wPt, wSl, wRev, wRgs, fTupR, fLstR, fLstRM, rgM, wCall, wYes, bOf, gam0, List.map_cons, List.map_nil, List.length_cons, List.length_nil, List.replicate, List.cons_append, List.nil_append, List.append_nil, List.getElem?_cons_zero, List.getElem?_cons_succ, List.set_cons_zero, List.set_cons_succ, Nat.add_sub_cancel, Nat.sub_self, Nat.sub_zero, Nat.reduceAdd, Nat.reduceSub, Nat.zero_add, if_true, if_false, Bool.false_eq_true, Bool.not_true, Bool.not_false, true_and, and_true, Bool.and_true, Bool.true_and]
          obtain ⟨b0, b1⟩ := row_in hx k0 k1
          refine ⟨by omega, (row.getD k.toNat 0).toNat, ?_, ?_⟩
          · unfold ixN
            rw [if_pos b0, if_pos (by omega)]
          · refine hnx2 _ _ ⟨ks, f.set (row.getD k.toNat 0).toNat (row.getD ((k + n).fmod row.length).toNat 0), _, rfl, fun j hj => hk j (List.mem_cons_of_mem _ hj), by rw [List.length_set]; exact hf, el, rfl, ?_⟩
            rw [List.map_set]
theorem isPy_rows : ∀ c : List (List Int), isPys (c.map rowD) = true
  | [] => rfl
  | r :: c => by
    show (isPys (r.map D.int) && isPys (c.map rowD)) = true
    rw [isPy_ints, isPy_rows c]
    rfl
theorem py_rows : ∀ c : List (List Int), pys (c.map rowD) = c.map fun r => PyData.list (r.map PyData.int)
  | [] => rfl
  | r :: c => by
    show PyData.list (pys (r.map D.int)) :: pys (c.map rowD) = _
    rw [py_ints, py_rows c]
    rfl
theorem shaped_rows (c : List (List Int)) : SeqAt.shaped (.list (c.map fun r => PyData.list (r.map PyData.int))) = true := by
  have e1 : PyData.canLayAll0 (c.map fun r => PyData.list (r.map PyData.int)) = true := by
    induction c with
    | nil => rfl
    | cons r c ih => simp [PyData.canLayAll0, PyData.canLay0, canLay_ints, ih]
  have e2 : PyData.depthAll (c.map fun r => PyData.list (r.map PyData.int)) ≤ 1 := by
    induction c with
    | nil => simp [PyData.depthAll]
    | cons r c ih =>
      simp [PyData.depthAll, PyData.depth, depth_ints] at ih ⊢
      simp [PyData.canLayAll0] at e1
      have := ih e1.2
      omega
  unfold SeqAt.shaped
  simp [PyData.canLay0, PyData.depth, e1]
  omega
theorem eqOk_rows (c : List (List Int)) : eqOk (.lst (c.map rowD)) = true := by
  show (isPys (c.map rowD) && SeqAt.shaped (.list (pys (c.map rowD)))) = true
  rw [isPy_rows, py_rows]
  exact shaped_rows c
theorem deq_rows0 (c : List (List Int)) : deq (.lst (c.map rowD)) (.lst []) = decide (c = []) := by
  show PyData.eqv (.list (pys (c.map rowD))) (.list []) = _
  rw [py_rows, PyData.eqv]
  cases c with
  | nil => simp [PyData.eqvAll]
  | cons r c => simp [PyData.eqvAll]
theorem pure_law_comes_round (K : PySem.W.Frag) (A : Adr) (ds : List D) (R : D → Prop) (Z : Addr → Prop) (hl : ds.length = 1) (h : sp_law_comes_round A ds R Z) : w_law_comes_round K A (gam0 3 ds) [] (Pt R Z) := by
  obtain ⟨c, size, n, rfl, hc, n1, nb, hr, hm, r⟩ := h
  obtain ⟨cl, cr⟩ := cycOk_iff hc
  simp only [w_law_comes_round, cycD, wSeq, wNext, wRet, wDrop, wAsg, wPar, wIf, wBrk, wCnt, wRaise, wIte, wAndV, wOrV, wNotV, wNeg, wAnd, wOr, wNot, wTest, wCB, wCons, wNil, wVar, wC, wBin, wTup, wLst, wLstM, wFrz, wIsN, wOrL, wDict0, wIt, wRng1, wRng2, wMeth, wMethT, wNoP, wPt, wSl, wRev, wRgs, fTupR, fLstR, fLstRM, rgM, wCall, wYes, bOf, gam0, List.map_cons, List.map_nil, List.length_cons, List.length_nil, List.replicate, List.cons_append, List.nil_append, List.append_nil, List.getElem?_cons_zero, List.getElem?_cons_succ, List.set_cons_zero, List.set_cons_succ, Nat.add_sub_cancel, Nat.sub_self, Nat.sub_zero, Nat.reduceAdd, Nat.reduceSub, Nat.zero_add, if_true, if_false, Bool.false_eq_true, Bool.not_true, Bool.not_false, true_and, and_true, Bool.and_true, Bool.true_and]
  refine ⟨fun m Γ μ => ∃ (j : Nat) (d2 : Option D), 1 ≤ j ∧ j + m = n ∧ Γ = [some (.lst (c.map rowD)), some (.int j), d2] ∧ μ = [], n - 1, ⟨1, none, by omega, by omega, rfl, rfl⟩, ?_⟩
  rintro m Γ μ ⟨j, d2, j1, jm, rfl, rfl⟩
  simp only [wLc, wipeG, itemsI, wSeq, wNext, wRet, wDrop, wAsg, wPar, wIf, wBrk, wCnt, wRaise, wIte, wAndV, wOrV, wNotV, wNeg, wAnd, wOr, wNot, wTest, wCB, wCons, wNil, wVar, wC, wBin, wTup, wLst, wLstM, wFrz, wIsN, wOrL, wDict0, wIt, wRng1, wRng2, wMeth, wMethT, wNoP, wPt, wSl, wRev, wRgs, fTupR, fLstR, fLstRM, rgM, wCall, wYes, bOf, gam0, List.map_cons, List.map_nil, List.length_cons, List.length_nil, List.replicate, List.cons_append, List.nil_append, List.append_nil, List.getElem?_cons_zero, List.getElem?_cons_succ, List.set_cons_zero, List.set_cons_succ, Nat.add_sub_cancel, Nat.sub_self, Nat.sub_zero, Nat.reduceAdd, Nat.reduceSub, Nat.zero_add, if_true, if_false, Bool.false_eq_true, Bool.not_true, Bool.not_false, true_and, and_true, Bool.and_true, Bool.true_and]
  refine ⟨by rw [List.length_map]; unfold big; omega, wLcL_filter (fun d => match d with | .lst xs => decide (j % xs.length ≠ 0) | _ => false) _ (fun x hx μ' Q q => ?_) (fun x hx hcc => ?_) ?_⟩
  · obtain ⟨row, hrow, rfl⟩ := List.mem_map.mp hx
    obtain ⟨⟨l1, l5⟩, _⟩ := cr row hrow
    simp only [rowD, dLen, items, List.length_map, dMod, fI, dNe, res, eqOk_int, deq_int, wSeq, wNext, wRet, wDrop, wAsg, wPar, wIf, wBrk, wCnt, wRaise, wIte, wAndV, wOrV, wNotV, wNeg, wAnd, wOr, wNot, wTest, wCB, wCons, wNil, wVar, wC, wBin, wTup, wLst, wLstM, wFrz, wIsN, wOrL, wDict0, wIt, wRng1, wRng2, wMeth, wMethT, wNoP, wPt, wSl, wRev, wRgs, fTupR, fLstR, fLstRM, rgM, wCall, wYes, bOf, gam0, List.map_cons, List.map_nil, List.length_cons, List.length_nil, List.replicate, List.cons_append, List.nil_append, List.append_nil, List.getElem?_cons_zero, List.getElem?_cons_succ, List.set_cons_zero, List.set_cons_succ, Nat.add_sub_cancel, Nat.sub_self, Nat.sub_zero, Nat.reduceAdd, Nat.reduceSub, Nat.zero_add, if_true, if_false, Bool.false_eq_true, Bool.not_true, Bool.not_false, true_and, and_true, Bool.and_true, Bool.true_and]
    have q : Q (decide (j % (row.map D.int).length ≠ 0)) μ' := q
    rw [List.length_map] at q
    have e : (!decide ((j : Int).fmod (row.length : Int) = 0)) = decide (j % row.length ≠ 0) := by
      rw [Int.fmod_eq_emod_of_nonneg _ (by omega)]
      by_cases h : j % row.length = 0
      · rw [decide_eq_true (by omega), decide_eq_false (by omega)]; rfl
      · rw [decide_eq_false (by omega), decide_eq_true h]; rfl
    rw [e]
    exact ⟨by omega, q⟩
  · obtain ⟨row, hrow, rfl⟩ := List.mem_map.mp hx
    exact ⟨pures_ints row, fun μ' Q q => q⟩
  · have ef : (c.map rowD).filter (fun d => match d with | .lst xs => decide (j % xs.length ≠ 0) | _ => false) = (c.filter fun r => decide (j % r.length ≠ 0)).map rowD := by
      rw [List.filter_map]
      congr 1
      apply List.filter_congr
      intro r _
      show decide (j % (r.map D.int).length ≠ 0) = _
      rw [List.length_map]
    rw [ef]
    have er : decide (c.filter (fun r => decide (j % r.length ≠ 0)) = []) = rounds c j := by
      unfold rounds
      by_cases h : c.filter (fun r => decide (j % r.length ≠ 0)) = []
      · rw [decide_eq_true h]
        rw [List.filter_eq_nil_iff] at h
        refine (List.all_eq_true.mpr fun r hr => ?_).symm
        have := h r hr
        simpa using this
      · rw [decide_eq_false h]
        refine (Bool.eq_false_iff.mpr fun q => h ?_).symm
        rw [List.filter_eq_nil_iff]
        intro r hr
        have := List.all_eq_true.mp q r hr
        simpa using this
    refine ⟨Nat.zero_le _, dNe_if (eqOk_rows _) (eqOk_rows []) ?_⟩
    show if (!deq (.lst ((c.filter fun r => decide (j % r.length ≠ 0)).map rowD)) (.lst [])) = true then _ else _
    rw [deq_rows0, er]
    by_cases e : j = n
    · rw [e, hr, if_neg (by decide)]
      exact ⟨rfl, r⟩
    · rw [hm j j1 (by omega), if_pos (by decide)]
      simp only [dAdd, wSeq, wNext, wRet, wDrop, wAsg, wPar, wIf, wBrk, wCnt, wRaise, wIte, wAndV, wOrV, wNotV, wNeg, wAnd, wOr, wNot, wTest, wCB, wCons, wNil, wVar, wC, wBin, wTup, wLst, wLstM, wFrz, wIsN, wOrL, wDict0, wIt, wRng1, wRng2, wMeth, wMethT, wNoP, wPt, wSl, wRev, wRgs, fTupR, fLstR, fLstRM, rgM, wCall, wYes, bOf, gam0, List.map_cons, List.map_nil, List.length_cons, List.length_nil, List.replicate, List.cons_append, List.nil_append, List.append_nil, List.getElem?_cons_zero, List.getElem?_cons_succ, List.set_cons_zero, List.set_cons_succ, Nat.add_sub_cancel, Nat.sub_self, Nat.sub_zero, Nat.reduceAdd, Nat.reduceSub, Nat.zero_add, if_true, if_false, Bool.false_eq_true, Bool.not_true, Bool.not_false, true_and, and_true, Bool.and_true, Bool.true_and]
      exact ⟨m - 1, by omega, j + 1, _, by omega, by omega, rfl⟩
theorem pure_law_number (K : PySem.W.Frag) (A : Adr) (ds : List D) (R : D → Prop) (Z : Addr → Prop) (hl : ds.length = 2) (h : sp_law_number A ds R Z) : w_law_number K A (gam0 3 ds) [] (Pt R Z) := by
  obtain ⟨q, rfl, q0, q1, r⟩ := h
  simp only [w_law_number, wSeq, wNext, wRet, wDrop, wAsg, wPar, wIf, wBrk, wCnt, wRaise, wIte, wAndV, wOrV, wNotV, wNeg, wAnd, wOr, wNot, wTest, wCB, wCons, wNil, wVar, wC, wBin, wTup, wLst, wLstM, wFrz, wIsN, wOrL, wDict0, wIt, wRng1, wRng2, wMeth, wMethT, wNoP, wPt, wSl, wRev, wRgs, fTupR, fLstR, fLstRM, rgM, wCall, wYes, bOf, gam0, List.map_cons, List.map_nil, List.length_cons, List.length_nil, List.replicate, List.cons_append, List.nil_append, List.append_nil, List.getElem?_cons_zero, List.getElem?_cons_succ, List.set_cons_zero, List.set_cons_succ, Nat.add_sub_cancel, Nat.sub_self, Nat.sub_zero, Nat.reduceAdd, Nat.reduceSub, Nat.zero_add, if_true, if_false, Bool.false_eq_true, Bool.not_true, Bool.not_false, true_and, and_true, Bool.and_true, Bool.true_and]
  refine ⟨rfl, draw_it (by decide) (by decide) fun r1 _ => ?_⟩
  simp only [dSub, dMul, fI, fT, wSeq, wNext, wRet, wDrop, wAsg, wPar, wIf, wBrk, wCnt, wRaise, wIte, wAndV, wOrV, wNotV, wNeg, wAnd, wOr, wNot, wTest, wCB, wCons, wNil, wVar, wC, wBin, wTup, wLst, wLstM, wFrz, wIsN, wOrL, wDict0, wIt, wRng1, wRng2, wMeth, wMethT, wNoP, wPt, wSl, wRev, wRgs, fTupR, fLstR, fLstRM, rgM, wCall, wYes, bOf, gam0, List.map_cons, List.map_nil, List.length_cons, List.length_nil, List.replicate, List.cons_append, List.nil_append, List.append_nil, List.getElem?_cons_zero, List.getElem?_cons_succ, List.set_cons_zero, List.set_cons_succ, Nat.add_sub_cancel, Nat.sub_self, Nat.sub_zero, Nat.reduceAdd, Nat.reduceSub, Nat.zero_add, if_true, if_false, Bool.false_eq_true, Bool.not_true, Bool.not_false, true_and, and_true, Bool.and_true, Bool.true_and]
  refine ⟨rfl, draw_it (by decide) (by decide) fun r2 h2 => ?_⟩
  simp only [dPow, dSub, dAdd, fI, fT, wSeq, wNext, wRet, wDrop, wAsg, wPar, wIf, wBrk, wCnt, wRaise, wIte, wAndV, wOrV, wNotV, wNeg, wAnd, wOr, wNot, wTest, wCB, wCons, wNil, wVar, wC, wBin, wTup, wLst, wLstM, wFrz, wIsN, wOrL, wDict0, wIt, wRng1, wRng2, wMeth, wMethT, wNoP, wPt, wSl, wRev, wRgs, fTupR, fLstR, fLstRM, rgM, wCall, wYes, bOf, gam0, List.map_cons, List.map_nil, List.length_cons, List.length_nil, List.replicate, List.cons_append, List.nil_append, List.append_nil, List.getElem?_cons_zero, List.getElem?_cons_succ, List.set_cons_zero, List.set_cons_succ, Nat.add_sub_cancel, Nat.sub_self, Nat.sub_zero, Nat.reduceAdd, Nat.reduceSub, Nat.zero_add, if_true, if_false, Bool.false_eq_true, Bool.not_true, Bool.not_false, true_and, and_true, Bool.and_true, Bool.true_and]
  refine ⟨.inl ⟨by omega, by omega⟩, by decide, ⟨by decide, by decide, by decide⟩, rfl, draw_it (by decide +kernel) (by decide +kernel) fun r3 _ => ?_⟩
  refine ⟨⟨by decide, by decide, by decide⟩, rfl, draw_it (by decide +kernel) (by decide +kernel) fun r4 _ => ?_⟩
  refine ⟨by decide, by decide, rfl, _, rfl, by simp, by simp, rfl, fun d hd => ?_⟩
  simp only [List.mem_cons, List.not_mem_nil, or_false] at hd
  rcases hd with rfl | rfl | rfl | rfl | rfl | rfl | rfl | rfl <;> exact ⟨rfl, r _⟩
end TC

set_option Elab.async false
set_option linter.all false
set_option maxRecDepth 100000
set_option maxHeartbeats 8000000
namespace TC
open PySem PySem.Spec PyProof.Rows L2
theorem times_it {A : Adr} {a : List Int} {n : Int} {Q : D → Prop} {Z : Addr → Prop} (ta : tOk a = true) (q : Q (tI (powL a (n.fmod (ordL a)).toNat))) : pures [tI a, .int n] = true ∧ sp_times A [tI a, .int n] Q Z := by
  refine ⟨by rw [pures_all]; simp [pure_tI, D.pure], _, n, rfl, thing_okT (thing_tI ta), fun c h1 _ => ?_, fun h => ?_⟩
  · rw [← int_tI h1]
    exact q
  · rw [sizeOf_ok ta] at h
    have := (tOk_iff.mp ta).1
    omega
theorem order_it {A : Adr} {a : List Int} {Q : D → Prop} {Z : Addr → Prop} (ta : tOk a = true) (q : Q (.int (ordL a : Nat))) : pures [tI a] = true ∧ sp_order A [tI a] Q Z := by
  refine ⟨pures1 a, _, rfl, thing_okT (thing_tI ta), fun c h1 _ => ?_, fun h => ?_⟩
  · rw [← int_tI h1]
    exact q
  · rw [sizeOf_ok ta] at h
    have := (tOk_iff.mp ta).1
    omega
theorem sign_it {A : Adr} {a : List Int} {Q : D → Prop} {Z : Addr → Prop} (ta : tOk a = true) (q : Q (.int (signL a))) : pures [tI a] = true ∧ sp_sign A [tI a] Q Z := by
  refine ⟨pures1 a, _, rfl, thing_okT (thing_tI ta), fun c h1 _ => ?_, fun h => ?_⟩
  · rw [← int_tI h1]
    exact q
  · rw [sizeOf_ok ta] at h
    have := (tOk_iff.mp ta).1
    omega
theorem whole_it {A : Adr} {i j : Int} {Q : D → Prop} {Z : Addr → Prop} (e : i = j) (q : Q (.bl true)) : pures [.int i, .int j] = true ∧ sp_law_whole A [.int i, .int j] Q Z :=
  ⟨rfl, i, j, rfl, by rw [decide_eq_true e]; exact q⟩
theorem number_it {A : Adr} {r : Int} {Q : D → Prop} {Z : Addr → Prop} (h0 : 0 < r) (h1 : r ≤ 1000) (q : ∀ i : Int, Q (.int i)) : pures [.st, .int r] = true ∧ sp_law_number A [.st, .int r] Q Z := ⟨rfl, r, rfl, h0, h1, q⟩
theorem dNe_int {a b : Int} {μ : Mem} {k : RD} (e : a = b) (q : k (.bl false) μ) : dNe (.int a) (.int b) μ k := by
  refine ⟨⟨eqOk_int a, eqOk_int b⟩, ?_⟩
  show k (.bl (!deq (.int a) (.int b))) μ
  rw [deq_int, decide_eq_true e]
  exact q
theorem seqK {w1 w2 : DS} {Γ : Gam} {μ : Mem} {P : Post} (h : ∀ k : Gam → Mem → Prop, (∀ Γ' μ', w2 Γ' μ' P → k Γ' μ') → w1 Γ μ ⟨k, P.rt, P.bk, P.ct, P.rz⟩) : wSeq w1 w2 Γ μ P := h _ fun _ _ h => h
theorem pure_law (K : PySem.W.Frag) (A : Adr) : w_law K A (gamS 14 1) [] ⟨fun _ _ => False, fun d _ => d = .bl true, fun _ _ => False, fun _ _ => False, fun _ _ _ => False⟩ := by
  have g0 : gamS 14 1 = [none, some .st, none, none, none, none, none, none, none, none, none, none, none, none] := rfl
  simp only [w_law, wFor, g0, wSeq, wNext, wRet, wDrop, wAsg, wPar, wIf, wBrk, wCnt, wRaise, wIte, wAndV, wOrV, wNotV, wNeg, wAnd, wOr, wNot, wTest, wCB, wCons, wNil, wVar, wC, wBin, wTup, wLst, wLstM, wFrz, wIsN, wOrL, wDict0, wIt, wRng1, wRng2, wMeth, wMethT, wNoP, wPt, wSl, wRev, wRgs, fTupR, fLstR, fLstRM, rgM, wCall, wYes, bOf, gam0, List.map_cons, List.map_nil, List.length_cons, List.length_nil, List.replicate, List.cons_append, List.nil_append, List.append_nil, List.getElem?_cons_zero, List.getElem?_cons_succ, List.set_cons_zero, List.set_cons_succ, Nat.add_sub_cancel, Nat.sub_self, Nat.sub_zero, Nat.reduceAdd, Nat.reduceSub, Nat.zero_add, if_true, if_false, Bool.false_eq_true, Bool.not_true, Bool.not_false, true_and, and_true, Bool.and_true, Bool.true_and]
  refine ⟨by unfold rgOk; omega, ?_⟩
  refine wForL_go (fun xs Γ μ => (∃ d2 d3 d4 d5 d6 d7 d8 d9 d10 d11 d12 d13, Γ = [none, some .st, d2, d3, d4, d5, d6, d7, d8, d9, d10, d11, d12, d13]) ∧ μ = []) ?_ ?_ _ _ _ ⟨⟨_, _, _, _, _, _, _, _, _, _, _, _, rfl⟩, rfl⟩
  · rintro Γ μ ⟨⟨d2, d3, d4, d5, d6, d7, d8, d9, d10, d11, d12, d13, rfl⟩, rfl⟩
    simp only [wSeq, wNext, wRet, wDrop, wAsg, wPar, wIf, wBrk, wCnt, wRaise, wIte, wAndV, wOrV, wNotV, wNeg, wAnd, wOr, wNot, wTest, wCB, wCons, wNil, wVar, wC, wBin, wTup, wLst, wLstM, wFrz, wIsN, wOrL, wDict0, wIt, wRng1, wRng2, wMeth, wMethT, wNoP, wPt, wSl, wRev, wRgs, fTupR, fLstR, fLstRM, rgM, wCall, wYes, bOf, gam0, List.map_cons, List.map_nil, List.length_cons, List.length_nil, List.replicate, List.cons_append, List.nil_append, List.append_nil, List.getElem?_cons_zero, List.getElem?_cons_succ, List.set_cons_zero, List.set_cons_succ, Nat.add_sub_cancel, Nat.sub_self, Nat.sub_zero, Nat.reduceAdd, Nat.reduceSub, Nat.zero_add, if_true, if_false, Bool.false_eq_true, Bool.not_true, Bool.not_false, true_and, and_true, Bool.and_true, Bool.true_and]
  · rintro z xs Γ μ ⟨⟨d2, d3, d4, d5, d6, d7, d8, d9, d10, d11, d12, d13, rfl⟩, rfl⟩ nx hnx
    have hnx' : ∀ d2 d3 d4 d5 d6 d7 d8 d9 d10 d11 d12 d13, nx [none, some .st, d2, d3, d4, d5, d6, d7, d8, d9, d10, d11, d12, d13] [] := fun d2 d3 d4 d5 d6 d7 d8 d9 d10 d11 d12 d13 => hnx _ _ ⟨⟨_, _, _, _, _, _, _, _, _, _, _, _, rfl⟩, rfl⟩
    clear hnx
    refine seqK fun k hk => ?_
    simp only [wSeq, wNext, wRet, wDrop, wAsg, wPar, wIf, wBrk, wCnt, wRaise, wIte, wAndV, wOrV, wNotV, wNeg, wAnd, wOr, wNot, wTest, wCB, wCons, wNil, wVar, wC, wBin, wTup, wLst, wLstM, wFrz, wIsN, wOrL, wDict0, wIt, wRng1, wRng2, wMeth, wMethT, wNoP, wPt, wSl, wRev, wRgs, fTupR, fLstR, fLstRM, rgM, wCall, wYes, bOf, gam0, List.map_cons, List.map_nil, List.length_cons, List.length_nil, List.replicate, List.cons_append, List.nil_append, List.append_nil, List.getElem?_cons_zero, List.getElem?_cons_succ, List.set_cons_zero, List.set_cons_succ, Nat.add_sub_cancel, Nat.sub_self, Nat.sub_zero, Nat.reduceAdd, Nat.reduceSub, Nat.zero_add, if_true, if_false, Bool.false_eq_true, Bool.not_true, Bool.not_false, true_and, and_true, Bool.and_true, Bool.true_and]
    refine ⟨rfl, draw_it (by decide) (by decide) fun r0 hr0 => ?_⟩
    obtain ⟨n, hn⟩ : ∃ n : Nat, (2 + (r0 : Int)) = n := ⟨2 + r0, by omega⟩
    have n2 : 2 ≤ n := by omega
    have n5 : n ≤ 5 := by omega
    simp only [dAdd, wSeq, wNext, wRet, wDrop, wAsg, wPar, wIf, wBrk, wCnt, wRaise, wIte, wAndV, wOrV, wNotV, wNeg, wAnd, wOr, wNot, wTest, wCB, wCons, wNil, wVar, wC, wBin, wTup, wLst, wLstM, wFrz, wIsN, wOrL, wDict0, wIt, wRng1, wRng2, wMeth, wMethT, wNoP, wPt, wSl, wRev, wRgs, fTupR, fLstR, fLstRM, rgM, wCall, wYes, bOf, gam0, List.map_cons, List.map_nil, List.length_cons, List.length_nil, List.replicate, List.cons_append, List.nil_append, List.append_nil, List.getElem?_cons_zero, List.getElem?_cons_succ, List.set_cons_zero, List.set_cons_succ, Nat.add_sub_cancel, Nat.sub_self, Nat.sub_zero, Nat.reduceAdd, Nat.reduceSub, Nat.zero_add, if_true, if_false, Bool.false_eq_true, Bool.not_true, Bool.not_false, true_and, and_true, Bool.and_true, Bool.true_and]
    rw [hn]
    refine hk _ _ ?_
    clear hk k
    refine seqK fun k hk => ?_
    simp only [wSeq, wNext, wRet, wDrop, wAsg, wPar, wIf, wBrk, wCnt, wRaise, wIte, wAndV, wOrV, wNotV, wNeg, wAnd, wOr, wNot, wTest, wCB, wCons, wNil, wVar, wC, wBin, wTup, wLst, wLstM, wFrz, wIsN, wOrL, wDict0, wIt, wRng1, wRng2, wMeth, wMethT, wNoP, wPt, wSl, wRev, wRgs, fTupR, fLstR, fLstRM, rgM, wCall, wYes, bOf, gam0, List.map_cons, List.map_nil, List.length_cons, List.length_nil, List.replicate, List.cons_append, List.nil_append, List.append_nil, List.getElem?_cons_zero, List.getElem?_cons_succ, List.set_cons_zero, List.set_cons_succ, Nat.add_sub_cancel, Nat.sub_self, Nat.sub_zero, Nat.reduceAdd, Nat.reduceSub, Nat.zero_add, if_true, if_false, Bool.false_eq_true, Bool.not_true, Bool.not_false, true_and, and_true, Bool.and_true, Bool.true_and]
    refine ⟨rfl, turn_it n2 n5 fun a ta la => ⟨rfl, turn_it n2 n5 fun b tb lb => ?_⟩⟩
    refine hk _ _ ?_
    clear hk k
    have ka := known ta
    have kb := known tb
    have cc := cycOk_iff ka.ok
    have op := ka.pos
    refine seqK fun k hk => ?_
    simp only [wSeq, wNext, wRet, wDrop, wAsg, wPar, wIf, wBrk, wCnt, wRaise, wIte, wAndV, wOrV, wNotV, wNeg, wAnd, wOr, wNot, wTest, wCB, wCons, wNil, wVar, wC, wBin, wTup, wLst, wLstM, wFrz, wIsN, wOrL, wDict0, wIt, wRng1, wRng2, wMeth, wMethT, wNoP, wPt, wSl, wRev, wRgs, fTupR, fLstR, fLstRM, rgM, wCall, wYes, bOf, gam0, List.map_cons, List.map_nil, List.length_cons, List.length_nil, List.replicate, List.cons_append, List.nil_append, List.append_nil, List.getElem?_cons_zero, List.getElem?_cons_succ, List.set_cons_zero, List.set_cons_succ, Nat.add_sub_cancel, Nat.sub_self, Nat.sub_zero, Nat.reduceAdd, Nat.reduceSub, Nat.zero_add, if_true, if_false, Bool.false_eq_true, Bool.not_true, Bool.not_false, true_and, and_true, Bool.and_true, Bool.true_and]
    refine ⟨pures1 a, a, rfl, ta, hk _ _ ?_⟩
    clear hk k
    refine seqK fun k hk => ?_
    simp only [wSeq, wNext, wRet, wDrop, wAsg, wPar, wIf, wBrk, wCnt, wRaise, wIte, wAndV, wOrV, wNotV, wNeg, wAnd, wOr, wNot, wTest, wCB, wCons, wNil, wVar, wC, wBin, wTup, wLst, wLstM, wFrz, wIsN, wOrL, wDict0, wIt, wRng1, wRng2, wMeth, wMethT, wNoP, wPt, wSl, wRev, wRgs, fTupR, fLstR, fLstRM, rgM, wCall, wYes, bOf, gam0, List.map_cons, List.map_nil, List.length_cons, List.length_nil, List.replicate, List.cons_append, List.nil_append, List.append_nil, List.getElem?_cons_zero, List.getElem?_cons_succ, List.set_cons_zero, List.set_cons_succ, Nat.add_sub_cancel, Nat.sub_self, Nat.sub_zero, Nat.reduceAdd, Nat.reduceSub, Nat.zero_add, if_true, if_false, Bool.false_eq_true, Bool.not_true, Bool.not_false, true_and, and_true, Bool.and_true, Bool.true_and]
    refine ⟨(by rw [pures_all]; simp [cycD, D.pure, pures_rows]), cycL a, a.length, ordL a, rfl, ka.ok, ka.pos.1, by omega, ka.rnd, ka.least, ?_⟩
    simp only [wLc, wipeG, cycD, itemsI, wSeq, wNext, wRet, wDrop, wAsg, wPar, wIf, wBrk, wCnt, wRaise, wIte, wAndV, wOrV, wNotV, wNeg, wAnd, wOr, wNot, wTest, wCB, wCons, wNil, wVar, wC, wBin, wTup, wLst, wLstM, wFrz, wIsN, wOrL, wDict0, wIt, wRng1, wRng2, wMeth, wMethT, wNoP, wPt, wSl, wRev, wRgs, fTupR, fLstR, fLstRM, rgM, wCall, wYes, bOf, gam0, List.map_cons, List.map_nil, List.length_cons, List.length_nil, List.replicate, List.cons_append, List.nil_append, List.append_nil, List.getElem?_cons_zero, List.getElem?_cons_succ, List.set_cons_zero, List.set_cons_succ, Nat.add_sub_cancel, Nat.sub_self, Nat.sub_zero, Nat.reduceAdd, Nat.reduceSub, Nat.zero_add, if_true, if_false, Bool.false_eq_true, Bool.not_true, Bool.not_false, true_and, and_true, Bool.and_true, Bool.true_and]
    have ef : (((cycL a).map rowD).filter (fun d => match d with | .lst xs => decide (xs.length % 2 = 0) | _ => false)).length = ((cycL a).filter fun r => decide (r.length % 2 = 0)).length := by
      rw [List.filter_map, List.length_map]
      congr 1
      apply List.filter_congr
      intro r _
      show decide ((r.map D.int).length % 2 = 0) = _
      rw [List.length_map]
    refine ⟨by rw [List.length_map]; unfold big; omega, wLcL_filter (fun d => match d with | .lst xs => decide (xs.length % 2 = 0) | _ => false) _ (fun x hx μ' Q q => ?_) (fun x hx hcc => ?_) ?_⟩
    · obtain ⟨row, hrow, rfl⟩ := List.mem_map.mp hx
      simp only [rowD, dLen, items, List.length_map, dMod, fI, dEq, res, eqOk_int, deq_int, wSeq, wNext, wRet, wDrop, wAsg, wPar, wIf, wBrk, wCnt, wRaise, wIte, wAndV, wOrV, wNotV, wNeg, wAnd, wOr, wNot, wTest, wCB, wCons, wNil, wVar, wC, wBin, wTup, wLst, wLstM, wFrz, wIsN, wOrL, wDict0, wIt, wRng1, wRng2, wMeth, wMethT, wNoP, wPt, wSl, wRev, wRgs, fTupR, fLstR, fLstRM, rgM, wCall, wYes, bOf, gam0, List.map_cons, List.map_nil, List.length_cons, List.length_nil, List.replicate, List.cons_append, List.nil_append, List.append_nil, List.getElem?_cons_zero, List.getElem?_cons_succ, List.set_cons_zero, List.set_cons_succ, Nat.add_sub_cancel, Nat.sub_self, Nat.sub_zero, Nat.reduceAdd, Nat.reduceSub, Nat.zero_add, if_true, if_false, Bool.false_eq_true, Bool.not_true, Bool.not_false, true_and, and_true, Bool.and_true, Bool.true_and]
      have q : Q (decide ((row.map D.int).length % 2 = 0)) μ' := q
      rw [List.length_map] at q
      have e : decide ((row.length : Int).fmod 2 = 0) = decide (row.length % 2 = 0) := by
        rw [Int.fmod_eq_emod_of_nonneg _ (by omega)]
        by_cases h : row.length % 2 = 0
        · rw [decide_eq_true h, decide_eq_true (by omega)]
        · rw [decide_eq_false h, decide_eq_false (by omega)]
      rw [e]
      exact ⟨by decide, q⟩
    · obtain ⟨row, hrow, rfl⟩ := List.mem_map.mp hx
      exact ⟨pures_ints row, fun μ' Q q => q⟩
    simp only [dLen, items, ef, wSeq, wNext, wRet, wDrop, wAsg, wPar, wIf, wBrk, wCnt, wRaise, wIte, wAndV, wOrV, wNotV, wNeg, wAnd, wOr, wNot, wTest, wCB, wCons, wNil, wVar, wC, wBin, wTup, wLst, wLstM, wFrz, wIsN, wOrL, wDict0, wIt, wRng1, wRng2, wMeth, wMethT, wNoP, wPt, wSl, wRev, wRgs, fTupR, fLstR, fLstRM, rgM, wCall, wYes, bOf, gam0, List.map_cons, List.map_nil, List.length_cons, List.length_nil, List.replicate, List.cons_append, List.nil_append, List.append_nil, List.getElem?_cons_zero, List.getElem?_cons_succ, List.set_cons_zero, List.set_cons_succ, Nat.add_sub_cancel, Nat.sub_self, Nat.sub_zero, Nat.reduceAdd, Nat.reduceSub, Nat.zero_add, if_true, if_false, Bool.false_eq_true, Bool.not_true, Bool.not_false, true_and, and_true, Bool.and_true, Bool.true_and]
    refine hk _ _ ?_
    clear hk k
    have hs := ka.sgn
    generalize ((cycL a).filter fun r => decide (r.length % 2 = 0)).length = ev at hs
    refine seqK fun k hk => ?_
    simp only [dMod, dMul, dSub, fI, fT, wSeq, wNext, wRet, wDrop, wAsg, wPar, wIf, wBrk, wCnt, wRaise, wIte, wAndV, wOrV, wNotV, wNeg, wAnd, wOr, wNot, wTest, wCB, wCons, wNil, wVar, wC, wBin, wTup, wLst, wLstM, wFrz, wIsN, wOrL, wDict0, wIt, wRng1, wRng2, wMeth, wMethT, wNoP, wPt, wSl, wRev, wRgs, fTupR, fLstR, fLstRM, rgM, wCall, wYes, bOf, gam0, List.map_cons, List.map_nil, List.length_cons, List.length_nil, List.replicate, List.cons_append, List.nil_append, List.append_nil, List.getElem?_cons_zero, List.getElem?_cons_succ, List.set_cons_zero, List.set_cons_succ, Nat.add_sub_cancel, Nat.sub_self, Nat.sub_zero, Nat.reduceAdd, Nat.reduceSub, Nat.zero_add, if_true, if_false, Bool.false_eq_true, Bool.not_true, Bool.not_false, true_and, and_true, Bool.and_true, Bool.true_and]
    refine order_it ta (whole_it rfl ?_)
    show if (!true) = true then _ else _
    rw [if_neg (by decide)]
    obtain ⟨v0, v1⟩ := fmod_lt (a := (ev : Int)) (b := 2) (by decide)
    refine sign_it ta ⟨by decide, .inl ⟨by decide, by decide⟩, whole_it ?_ ?_⟩
    · rw [hs, Int.fmod_eq_emod_of_nonneg _ (by decide)]
    refine hk _ _ ?_
    clear hk k
    refine seqK fun k hk => ?_
    simp only [wSeq, wNext, wRet, wDrop, wAsg, wPar, wIf, wBrk, wCnt, wRaise, wIte, wAndV, wOrV, wNotV, wNeg, wAnd, wOr, wNot, wTest, wCB, wCons, wNil, wVar, wC, wBin, wTup, wLst, wLstM, wFrz, wIsN, wOrL, wDict0, wIt, wRng1, wRng2, wMeth, wMethT, wNoP, wPt, wSl, wRev, wRgs, fTupR, fLstR, fLstRM, rgM, wCall, wYes, bOf, gam0, List.map_cons, List.map_nil, List.length_cons, List.length_nil, List.replicate, List.cons_append, List.nil_append, List.append_nil, List.getElem?_cons_zero, List.getElem?_cons_succ, List.set_cons_zero, List.set_cons_succ, Nat.add_sub_cancel, Nat.sub_self, Nat.sub_zero, Nat.reduceAdd, Nat.reduceSub, Nat.zero_add, if_true, if_false, Bool.false_eq_true, Bool.not_true, Bool.not_false, true_and, and_true, Bool.and_true, Bool.true_and]
    refine number_it (by omega) (by omega) fun i => number_it (by omega) (by omega) fun j => hk _ _ ?_
    clear hk k
    refine seqK fun k hk => ?_
    simp only [wFor, itemsI, dAdd, dSub, fI, fT, wSeq, wNext, wRet, wDrop, wAsg, wPar, wIf, wBrk, wCnt, wRaise, wIte, wAndV, wOrV, wNotV, wNeg, wAnd, wOr, wNot, wTest, wCB, wCons, wNil, wVar, wC, wBin, wTup, wLst, wLstM, wFrz, wIsN, wOrL, wDict0, wIt, wRng1, wRng2, wMeth, wMethT, wNoP, wPt, wSl, wRev, wRgs, fTupR, fLstR, fLstRM, rgM, wCall, wYes, bOf, gam0, List.map_cons, List.map_nil, List.length_cons, List.length_nil, List.replicate, List.cons_append, List.nil_append, List.append_nil, List.getElem?_cons_zero, List.getElem?_cons_succ, List.set_cons_zero, List.set_cons_succ, Nat.add_sub_cancel, Nat.sub_self, Nat.sub_zero, Nat.reduceAdd, Nat.reduceSub, Nat.zero_add, if_true, if_false, Bool.false_eq_true, Bool.not_true, Bool.not_false, true_and, and_true, Bool.and_true, Bool.true_and]
    refine ⟨by decide, ?_⟩
    refine wForL_go (fun xs Γ μ => (∃ ns : List Int, xs = ns.map D.int) ∧ (∃ d5, Γ = [none, some .st, some z, some (.int n), some (cycD (cycL a)), d5, d6, some (tI a), some (tI b), some (.int (ordL a)), some (.int ev), some (.int i), some (.int j), d13]) ∧ μ = []) ?_ ?_ _ _ _ ⟨⟨[i, j, i + j, 0 - i, 0, 1, ordL a, ordL a + 1], rfl⟩, ⟨_, rfl⟩, rfl⟩
    rotate_left
    · rintro x xs Γ μ ⟨⟨ns, e⟩, ⟨d5, rfl⟩, rfl⟩ nx2 hnx2
      cases ns with
      | nil => cases e
      | cons m ns =>
        cases e
        simp only [wSeq, wNext, wRet, wDrop, wAsg, wPar, wIf, wBrk, wCnt, wRaise, wIte, wAndV, wOrV, wNotV, wNeg, wAnd, wOr, wNot, wTest, wCB, wCons, wNil, wVar, wC, wBin, wTup, wLst, wLstM, wFrz, wIsN, wOrL, wDict0, wIt, wRng1, wRng2, wMeth, wMethT, wNoP, wPt, wSl, wRev, wRgs, fTupR, fLstR, fLstRM, rgM, wCall, wYes, bOf, gam0, List.map_cons, List.map_nil, List.length_cons, List.length_nil, List.replicate, List.cons_append, List.nil_append, List.append_nil, List.getElem?_cons_zero, List.getElem?_cons_succ, List.set_cons_zero, List.set_cons_succ, Nat.add_sub_cancel, Nat.sub_self, Nat.sub_zero, Nat.reduceAdd, Nat.reduceSub, Nat.zero_add, if_true, if_false, Bool.false_eq_true, Bool.not_true, Bool.not_false, true_and, and_true, Bool.and_true, Bool.true_and]
        refine times_it ta ⟨(by rw [pures_all]; simp [cycD, D.pure, pures_rows]), cycL a, n, m, rfl, n5, by rw [← la]; exact ka.ok, exact_it (tOk_pow ta _) (by rw [← la]; exact led_all ta m) ?_⟩
        exact hnx2 _ _ ⟨⟨ns, rfl⟩, ⟨_, rfl⟩, rfl⟩
    rintro Γ μ ⟨_, ⟨d5, rfl⟩, rfl⟩
    refine hk _ _ ?_
    clear hk k
    have op0 : (0 : Int) < ordL a := by omega
    have tbb := tOk_back tb
    have lbb : (backL b).length = b.length := len_back b
    have lab : a.length = b.length := la.trans lb.symm
    have tba := tOk_put tb ta lab.symm
    have lba : (putL b a).length = a.length := len_put b a
    have tr : tOk (aboutL b a) = true := tOk_put tba tbb (by rw [lba, lbb, lab])
    have one : ∀ {c : List Int}, tOk c = true → signL c = 1 ∨ signL c = -1 := fun {c} hc => by
      have := (known hc).sgn
      omega
    refine seqK fun k hk => ?_
    simp only [dAdd, wSeq, wNext, wRet, wDrop, wAsg, wPar, wIf, wBrk, wCnt, wRaise, wIte, wAndV, wOrV, wNotV, wNeg, wAnd, wOr, wNot, wTest, wCB, wCons, wNil, wVar, wC, wBin, wTup, wLst, wLstM, wFrz, wIsN, wOrL, wDict0, wIt, wRng1, wRng2, wMeth, wMethT, wNoP, wPt, wSl, wRev, wRgs, fTupR, fLstR, fLstRM, rgM, wCall, wYes, bOf, gam0, List.map_cons, List.map_nil, List.length_cons, List.length_nil, List.replicate, List.cons_append, List.nil_append, List.append_nil, List.getElem?_cons_zero, List.getElem?_cons_succ, List.set_cons_zero, List.set_cons_succ, Nat.add_sub_cancel, Nat.sub_self, Nat.sub_zero, Nat.reduceAdd, Nat.reduceSub, Nat.zero_add, if_true, if_false, Bool.false_eq_true, Bool.not_true, Bool.not_false, true_and, and_true, Bool.and_true, Bool.true_and]
    refine times_it ta (times_it ta (into_it (tOk_pow ta _) (tOk_pow ta _) (by rw [len_pow, len_pow]) (times_it ta (dNe_tI ?_ ?_))))
    · rw [pow_add ta, ← pow_mod ta ((i.fmod (ordL a)).toNat + (j.fmod (ordL a)).toNat)]
      congr 1
      have hi := fmod_lt (a := i) op0
      have hj := fmod_lt (a := j) op0
      have hij := fmod_lt (a := i + j) op0
      have e : (((i.fmod (ordL a)).toNat + (j.fmod (ordL a)).toNat : Nat) : Int) % (ordL a : Int) = (i + j).fmod (ordL a) := by
        rw [Int.natCast_add, Int.toNat_of_nonneg hi.1, Int.toNat_of_nonneg hj.1, Int.fmod_eq_emod_of_nonneg _ (by omega), Int.fmod_eq_emod_of_nonneg _ (by omega), Int.fmod_eq_emod_of_nonneg _ (by omega), ← Int.add_emod]
      omega
    refine times_it ta (undone_it ta (dNe_tI ?_ ?_))
    · rw [← ka.back]
      congr 1
      have e : (-1 : Int).fmod (ordL a) = (ordL a : Int) - 1 := by
        rw [Int.fmod_eq_emod_of_nonneg _ (by omega)]
        have h : (-1 : Int) = ((ordL a : Int) - 1) + (ordL a : Int) * (-1) := by omega
        rw [h, Int.add_mul_emod_self_left]
        exact Int.emod_eq_of_lt (by omega) (by omega)
      rw [e]
      omega
    refine hk _ _ ?_
    clear hk k
    refine seqK fun k hk => ?_
    simp only [wSeq, wNext, wRet, wDrop, wAsg, wPar, wIf, wBrk, wCnt, wRaise, wIte, wAndV, wOrV, wNotV, wNeg, wAnd, wOr, wNot, wTest, wCB, wCons, wNil, wVar, wC, wBin, wTup, wLst, wLstM, wFrz, wIsN, wOrL, wDict0, wIt, wRng1, wRng2, wMeth, wMethT, wNoP, wPt, wSl, wRev, wRgs, fTupR, fLstR, fLstRM, rgM, wCall, wYes, bOf, gam0, List.map_cons, List.map_nil, List.length_cons, List.length_nil, List.replicate, List.cons_append, List.nil_append, List.append_nil, List.getElem?_cons_zero, List.getElem?_cons_succ, List.set_cons_zero, List.set_cons_succ, Nat.add_sub_cancel, Nat.sub_self, Nat.sub_zero, Nat.reduceAdd, Nat.reduceSub, Nat.zero_add, if_true, if_false, Bool.false_eq_true, Bool.not_true, Bool.not_false, true_and, and_true, Bool.and_true, Bool.true_and]
    refine times_it ta ⟨rfl, plain_it n2 n5 (dNe_tI ?_ ?_)⟩
    · rw [Int.fmod_self]
      show rgL a.length = _
      rw [la]
    refine into_it ta tb lab (sign_it (tOk_put ta tb lab) (sign_it ta (sign_it tb ⟨.inl ?_, dNe_int (sgn_put ta tb lab) ?_⟩)))
    · rcases one ta with h | h <;> rw [h] <;> decide
    refine hk _ _ ?_
    clear hk k
    refine seqK fun k hk => ?_
    simp only [wSeq, wNext, wRet, wDrop, wAsg, wPar, wIf, wBrk, wCnt, wRaise, wIte, wAndV, wOrV, wNotV, wNeg, wAnd, wOr, wNot, wTest, wCB, wCons, wNil, wVar, wC, wBin, wTup, wLst, wLstM, wFrz, wIsN, wOrL, wDict0, wIt, wRng1, wRng2, wMeth, wMethT, wNoP, wPt, wSl, wRev, wRgs, fTupR, fLstR, fLstRM, rgM, wCall, wYes, bOf, gam0, List.map_cons, List.map_nil, List.length_cons, List.length_nil, List.replicate, List.cons_append, List.nil_append, List.append_nil, List.getElem?_cons_zero, List.getElem?_cons_succ, List.set_cons_zero, List.set_cons_succ, Nat.add_sub_cancel, Nat.sub_self, Nat.sub_zero, Nat.reduceAdd, Nat.reduceSub, Nat.zero_add, if_true, if_false, Bool.false_eq_true, Bool.not_true, Bool.not_false, true_and, and_true, Bool.and_true, Bool.true_and]
    refine into_it tb ta lab.symm (undone_it tb (into_it tba tbb (by rw [lba, lbb, lab]) (hk _ _ ?_)))
    clear hk k
    refine seqK fun k hk => ?_
    simp only [wSeq, wNext, wRet, wDrop, wAsg, wPar, wIf, wBrk, wCnt, wRaise, wIte, wAndV, wOrV, wNotV, wNeg, wAnd, wOr, wNot, wTest, wCB, wCons, wNil, wVar, wC, wBin, wTup, wLst, wLstM, wFrz, wIsN, wOrL, wDict0, wIt, wRng1, wRng2, wMeth, wMethT, wNoP, wPt, wSl, wRev, wRgs, fTupR, fLstR, fLstRM, rgM, wCall, wYes, bOf, gam0, List.map_cons, List.map_nil, List.length_cons, List.length_nil, List.replicate, List.cons_append, List.nil_append, List.append_nil, List.getElem?_cons_zero, List.getElem?_cons_succ, List.set_cons_zero, List.set_cons_succ, Nat.add_sub_cancel, Nat.sub_self, Nat.sub_zero, Nat.reduceAdd, Nat.reduceSub, Nat.zero_add, if_true, if_false, Bool.false_eq_true, Bool.not_true, Bool.not_false, true_and, and_true, Bool.and_true, Bool.true_and]
    refine order_it tr (dNe_int ?_ ?_)
    · rw [show putL (putL b a) (backL b) = aboutL b a from rfl, about_ord ta tb lab]
    refine sign_it tr (sign_it ta (dNe_int ?_ ?_))
    · show signL (putL (putL b a) (backL b)) = _
      rw [sgn_put tba tbb (by rw [lba, lbb, lab]), sgn_put tb ta lab.symm, kb.sback, Int.mul_comm, ← Int.mul_assoc, kb.sq, Int.one_mul]
    refine undone_it tb (sign_it tbb (sign_it tb (dNe_int kb.sback ?_)))
    refine hk _ _ ?_
    exact hnx' _ _ _ _ _ _ _ _ _ _ _ _
end TC

set_option Elab.async false
set_option linter.all false
set_option maxRecDepth 100000
set_option maxHeartbeats 2000000
namespace TC
open PySem PySem.Spec PyProof.Rows L2
theorem kitC_mk {K : PySem.W.Frag} {S D : Addr} {b : Bool} (h2 : PySem.W.isClsIn K S = true) (h3 : PySem.W.typeIn K (.ref S) = some (.type "type")) (h4 : PySem.W.subIn K (.ref D) (.ref S) = some b) : PySem.W.kitCls K (.ref D) (.ref S) = some b := by
  have e2 : ((PySem.W.clsIn K S).isSome && PySem.W.typeIn K (.ref S) == some (.type "type")) = true := by
    have h2' : (PySem.W.clsIn K S).isSome = true := h2
    rw [h2', h3] <;> rfl
  show (if ((PySem.W.clsIn K S).isSome && PySem.W.typeIn K (.ref S) == some (.type "type")) = true then PySem.W.subIn K (.ref D) (.ref S) else none) = some b
  rw [if_pos e2]
  exact h4
theorem exm_mk {K : PySem.W.Frag} {S D : Addr} {b : Bool} (h1 : PySem.W.subIn K (.ref S) (.type "BaseException") = some true) (h2 : PySem.W.isClsIn K S = true) (h3 : PySem.W.typeIn K (.ref S) = some (.type "type")) (h4 : PySem.W.subIn K (.ref D) (.ref S) = some b) :
    PySem.W.exmOne K (.ref D) (.ref S) = some b := by
  have e1 : (PySem.W.subIn K (.ref S) (.type "BaseException") == some true) = true := by rw [h1] <;> rfl
  show (if (PySem.W.subIn K (.ref S) (.type "BaseException") == some true) = true then PySem.W.kitCls K (.ref D) (.ref S) else none) = some b
  rw [if_pos e1]
  exact kitC_mk h2 h3 h4
theorem kit_mk {K : PySem.W.Frag} {S D : Addr} {b : Bool} (h2 : PySem.W.isClsIn K S = true) (h3 : PySem.W.typeIn K (.ref S) = some (.type "type")) (h4 : PySem.W.subIn K (.ref D) (.ref S) = some b) (h5 : PySem.W.subIn K (.ref D) (.ref D) = some true) : PySem.W.kitOne K (.ref D) (.ref S) = some b := by
  show (if (Value.ref D == Value.ref S) = true then some true else PySem.W.kitCls K (.ref D) (.ref S)) = some b
  by_cases e : D = S
  · subst e
    rw [if_pos (beq_self_eq_true _), ← h4, h5]
  · rw [if_neg (fun h => e (by injection (eq_of_beq h)))]
    exact kitC_mk h2 h3 h4
theorem kitV_mk {K : PySem.W.Frag} {D : Addr} (h : PySem.W.subIn K (.ref D) (.type "ValueError") = some true) : PySem.W.kitOne K (.ref D) (.type "ValueError") = some true := by
  show (if (Value.ref D == Value.type "ValueError") = true then some true else if PySem.W.kitMeta "ValueError" = true then PySem.W.subIn K (.ref D) (.type "ValueError") else none) = some true
  have e : PySem.W.kitMeta "ValueError" = true := by decide +kernel
  rw [if_pos e, h]
  split <;> rfl
end TC

set_option Elab.async false
set_option linter.all false
set_option maxRecDepth 100000
set_option maxHeartbeats 4000000
namespace TC
namespace turncoats_k02_whole_cycles_tell_orders_t
open PySem PySem.Spec PyProof.Rows L2
def topS (i : Nat) : Stmt := PySem.Challenge.pw_turncoats_k02_whole_cycles_tell_orders_t.main.body.getD i (.Pass ⟨0, 0, 0, 0⟩)
abbrev s_is_number : Stmt := topS 6
abbrev N_is_number : List Str := ["thing"]
theorem sc_is_number : FnScope N_is_number ["thing"] (defScope s_is_number) := ⟨rfl, rfl, rfl, by decide +kernel, rfl, by decide +kernel, by decide +kernel⟩
abbrev s_size_of : Stmt := topS 7
abbrev N_size_of : List Str := ["thing", "part"]
theorem sc_size_of : FnScope N_size_of ["thing"] (defScope s_size_of) := ⟨rfl, rfl, rfl, by decide +kernel, rfl, by decide +kernel, by decide +kernel⟩
abbrev s_need_size : Stmt := topS 8
abbrev N_need_size : List Str := ["size"]
theorem sc_need_size : FnScope N_need_size ["size"] (defScope s_need_size) := ⟨rfl, rfl, rfl, by decide +kernel, rfl, by decide +kernel, by decide +kernel⟩
abbrev s_need_turn : Stmt := topS 9
abbrev N_need_turn : List Str := ["turn", "size"]
theorem sc_need_turn : FnScope N_need_turn ["turn"] (defScope s_need_turn) := ⟨rfl, rfl, rfl, by decide +kernel, rfl, by decide +kernel, by decide +kernel⟩
abbrev s_put : Stmt := topS 10
abbrev N_put : List Str := ["one", "other", "k"]
theorem sc_put : FnScope N_put ["one", "other"] (defScope s_put) := ⟨rfl, rfl, rfl, by decide +kernel, rfl, by decide +kernel, by decide +kernel⟩
abbrev s_back : Stmt := topS 11
abbrev N_back : List Str := ["turn", "k"]
theorem sc_back : FnScope N_back ["turn"] (defScope s_back) := ⟨rfl, rfl, rfl, by decide +kernel, rfl, by decide +kernel, by decide +kernel⟩
abbrev s_plain : Stmt := topS 12
abbrev N_plain : List Str := ["size"]
theorem sc_plain : FnScope N_plain ["size"] (defScope s_plain) := ⟨rfl, rfl, rfl, by decide +kernel, rfl, by decide +kernel, by decide +kernel⟩
abbrev s_into : Stmt := topS 13
abbrev N_into : List Str := ["one", "other"]
theorem sc_into : FnScope N_into ["one", "other"] (defScope s_into) := ⟨rfl, rfl, rfl, by decide +kernel, rfl, by decide +kernel, by decide +kernel⟩
abbrev s_undone : Stmt := topS 14
abbrev N_undone : List Str := ["turn"]
theorem sc_undone : FnScope N_undone ["turn"] (defScope s_undone) := ⟨rfl, rfl, rfl, by decide +kernel, rfl, by decide +kernel, by decide +kernel⟩
abbrev s_times : Stmt := topS 15
abbrev N_times : List Str := ["turn", "n", "many", "behind", "_"]
theorem sc_times : FnScope N_times ["turn", "n"] (defScope s_times) := ⟨rfl, rfl, rfl, by decide +kernel, rfl, by decide +kernel, by decide +kernel⟩
abbrev s_order : Stmt := topS 16
abbrev N_order : List Str := ["turn", "start", "behind", "many"]
theorem sc_order : FnScope N_order ["turn"] (defScope s_order) := ⟨rfl, rfl, rfl, by decide +kernel, rfl, by decide +kernel, by decide +kernel⟩
abbrev s_sign : Stmt := topS 17
abbrev N_sign : List Str := ["turn", "size", "told", "high", "low"]
theorem sc_sign : FnScope N_sign ["turn"] (defScope s_sign) := ⟨rfl, rfl, rfl, by decide +kernel, rfl, by decide +kernel, by decide +kernel⟩
abbrev s_law_state : Stmt := topS 19
abbrev N_law_state : List Str := ["script", "cell"]
theorem sc_law_state : FnScope N_law_state ["script"] (defScope s_law_state) := ⟨rfl, rfl, rfl, by decide +kernel, rfl, by decide +kernel, by decide +kernel⟩
abbrev s_law_draw : Stmt := topS 20
abbrev N_law_draw : List Str := ["state", "many", "cells", "at", "cell"]
theorem sc_law_draw : FnScope N_law_draw ["state", "many"] (defScope s_law_draw) := ⟨rfl, rfl, rfl, by decide +kernel, rfl, by decide +kernel, by decide +kernel⟩
abbrev s_law_pick : Stmt := topS 21
abbrev N_law_pick : List Str := ["state", "some"]
theorem sc_law_pick : FnScope N_law_pick ["state", "some"] (defScope s_law_pick) := ⟨rfl, rfl, rfl, by decide +kernel, rfl, by decide +kernel, by decide +kernel⟩
abbrev s_law_mixed : Stmt := topS 22
abbrev N_law_mixed : List Str := ["state", "some", "left", "rows"]
theorem sc_law_mixed : FnScope N_law_mixed ["state", "some"] (defScope s_law_mixed) := ⟨rfl, rfl, rfl, by decide +kernel, rfl, by decide +kernel, by decide +kernel⟩
abbrev s_law_a_turn : Stmt := topS 23
abbrev N_law_a_turn : List Str := ["state", "size", "way", "at"]
theorem sc_law_a_turn : FnScope N_law_a_turn ["state", "size"] (defScope s_law_a_turn) := ⟨rfl, rfl, rfl, by decide +kernel, rfl, by decide +kernel, by decide +kernel⟩
abbrev s_law_exact : Stmt := topS 26
abbrev N_law_exact : List Str := ["found", "due", "one"]
theorem sc_law_exact : FnScope N_law_exact ["found", "due"] (defScope s_law_exact) := ⟨rfl, rfl, rfl, by decide +kernel, rfl, by decide +kernel, by decide +kernel⟩
abbrev s_law_whole : Stmt := topS 27
abbrev N_law_whole : List Str := ["found", "due"]
theorem sc_law_whole : FnScope N_law_whole ["found", "due"] (defScope s_law_whole) := ⟨rfl, rfl, rfl, by decide +kernel, rfl, by decide +kernel, by decide +kernel⟩
abbrev s_law_cycles : Stmt := topS 28
abbrev N_law_cycles : List Str := ["turn", "spot", "found", "seen", "row", "at"]
theorem sc_law_cycles : FnScope N_law_cycles ["turn"] (defScope s_law_cycles) := ⟨rfl, rfl, rfl, by decide +kernel, rfl, by decide +kernel, by decide +kernel⟩
abbrev s_law_led_on : Stmt := topS 29
abbrev N_law_led_on : List Str := ["cycles", "size", "n", "found", "row", "at"]
theorem sc_law_led_on : FnScope N_law_led_on ["cycles", "size", "n"] (defScope s_law_led_on) := ⟨rfl, rfl, rfl, by decide +kernel, rfl, by decide +kernel, by decide +kernel⟩
abbrev s_law_comes_round : Stmt := topS 30
abbrev N_law_comes_round : List Str := ["cycles", "n", "row"]
theorem sc_law_comes_round : FnScope N_law_comes_round ["cycles"] (defScope s_law_comes_round) := ⟨rfl, rfl, rfl, by decide +kernel, rfl, by decide +kernel, by decide +kernel⟩
abbrev s_law_number : Stmt := topS 31
abbrev N_law_number : List Str := ["state", "round_of_all", "some"]
theorem sc_law_number : FnScope N_law_number ["state", "round_of_all"] (defScope s_law_number) := ⟨rfl, rfl, rfl, by decide +kernel, rfl, by decide +kernel, by decide +kernel⟩
abbrev s_law : Stmt := topS 32
abbrev N_law : List Str := ["script", "state", "turn", "size", "cycles", "many", "round_about", "one", "other", "due", "evens", "n", "more", "row"]
theorem sc_law : FnScope N_law ["script"] (defScope s_law) := ⟨rfl, rfl, rfl, by decide +kernel, rfl, by decide +kernel, by decide +kernel⟩
structure Fns where
  f_is_number : Addr
  f_size_of : Addr
  f_need_size : Addr
  f_need_turn : Addr
  f_put : Addr
  f_back : Addr
  f_plain : Addr
  f_into : Addr
  f_undone : Addr
  f_times : Addr
  f_order : Addr
  f_sign : Addr
  f_law_state : Addr
  f_law_draw : Addr
  f_law_pick : Addr
  f_law_mixed : Addr
  f_law_a_turn : Addr
  f_law_exact : Addr
  f_law_whole : Addr
  f_law_cycles : Addr
  f_law_led_on : Addr
  f_law_comes_round : Addr
  f_law_number : Addr
  f_law : Addr
  a_SIZES : Addr
structure Txt (K : PySem.W.Frag) (mg : Str → Option Value) (A : Adr) (F : Fns) : Prop where
  b_abs : mg "abs" = none
  b_all : mg "all" = none
  b_bool : mg "bool" = none
  b_int : mg "int" = none
  b_isinstance : mg "isinstance" = none
  b_len : mg "len" = none
  b_list : mg "list" = none
  b_range : mg "range" = none
  b_sorted : mg "sorted" = none
  b_tuple : mg "tuple" = none
  g_CoatError : mg "CoatError" = some (.ref A.c_CoatError)
  g_NoSize : mg "NoSize" = some (.ref A.c_NoSize)
  x_NoSize : PySem.W.excIn K A.c_NoSize [.type "ValueError", .type "Exception", .type "BaseException", .type "object"] "ValueError.__new__" = true
  k_NoSize : PySem.W.keepIn K (.ref A.c_NoSize) = true
  s_NoSize : PySem.W.subIn K (.ref A.c_NoSize) (.type "BaseException") = some true
  t_NoSize : PySem.W.typeIn K (.ref A.c_NoSize) = some (.type "type")
  g_NoTurn : mg "NoTurn" = some (.ref A.c_NoTurn)
  x_NoTurn : PySem.W.excIn K A.c_NoTurn [.type "ValueError", .type "Exception", .type "BaseException", .type "object"] "ValueError.__new__" = true
  k_NoTurn : PySem.W.keepIn K (.ref A.c_NoTurn) = true
  s_NoTurn : PySem.W.subIn K (.ref A.c_NoTurn) (.type "BaseException") = some true
  t_NoTurn : PySem.W.typeIn K (.ref A.c_NoTurn) = some (.type "type")
  g_SIZES : mg "SIZES" = some (.ref F.a_SIZES)
  d_SIZES : ∀ S α G, Is K S α G d_SIZES (.ref F.a_SIZES)
  g_is_number : mg "is_number" = some (.ref F.f_is_number)
  k_is_number : PySem.W.keepIn K (.ref F.f_is_number) = true
  g_size_of : mg "size_of" = some (.ref F.f_size_of)
  k_size_of : PySem.W.keepIn K (.ref F.f_size_of) = true
  g_need_size : mg "need_size" = some (.ref F.f_need_size)
  k_need_size : PySem.W.keepIn K (.ref F.f_need_size) = true
  g_need_turn : mg "need_turn" = some (.ref F.f_need_turn)
  k_need_turn : PySem.W.keepIn K (.ref F.f_need_turn) = true
  g_put : mg "put" = some (.ref F.f_put)
  k_put : PySem.W.keepIn K (.ref F.f_put) = true
  g_back : mg "back" = some (.ref F.f_back)
  k_back : PySem.W.keepIn K (.ref F.f_back) = true
  g_plain : mg "plain" = some (.ref F.f_plain)
  k_plain : PySem.W.keepIn K (.ref F.f_plain) = true
  g_into : mg "into" = some (.ref F.f_into)
  k_into : PySem.W.keepIn K (.ref F.f_into) = true
  g_undone : mg "undone" = some (.ref F.f_undone)
  k_undone : PySem.W.keepIn K (.ref F.f_undone) = true
  g_times : mg "times" = some (.ref F.f_times)
  k_times : PySem.W.keepIn K (.ref F.f_times) = true
  g_order : mg "order" = some (.ref F.f_order)
  k_order : PySem.W.keepIn K (.ref F.f_order) = true
  g_sign : mg "sign" = some (.ref F.f_sign)
  k_sign : PySem.W.keepIn K (.ref F.f_sign) = true
  g__law_state : mg "_law_state" = some (.ref F.f_law_state)
  k__law_state : PySem.W.keepIn K (.ref F.f_law_state) = true
  g__law_draw : mg "_law_draw" = some (.ref F.f_law_draw)
  k__law_draw : PySem.W.keepIn K (.ref F.f_law_draw) = true
  g__law_pick : mg "_law_pick" = some (.ref F.f_law_pick)
  k__law_pick : PySem.W.keepIn K (.ref F.f_law_pick) = true
  g__law_mixed : mg "_law_mixed" = some (.ref F.f_law_mixed)
  k__law_mixed : PySem.W.keepIn K (.ref F.f_law_mixed) = true
  g__law_a_turn : mg "_law_a_turn" = some (.ref F.f_law_a_turn)
  k__law_a_turn : PySem.W.keepIn K (.ref F.f_law_a_turn) = true
  g__law_exact : mg "_law_exact" = some (.ref F.f_law_exact)
  k__law_exact : PySem.W.keepIn K (.ref F.f_law_exact) = true
  g__law_whole : mg "_law_whole" = some (.ref F.f_law_whole)
  k__law_whole : PySem.W.keepIn K (.ref F.f_law_whole) = true
  g__law_cycles : mg "_law_cycles" = some (.ref F.f_law_cycles)
  k__law_cycles : PySem.W.keepIn K (.ref F.f_law_cycles) = true
  g__law_led_on : mg "_law_led_on" = some (.ref F.f_law_led_on)
  k__law_led_on : PySem.W.keepIn K (.ref F.f_law_led_on) = true
  g__law_comes_round : mg "_law_comes_round" = some (.ref F.f_law_comes_round)
  k__law_comes_round : PySem.W.keepIn K (.ref F.f_law_comes_round) = true
  g__law_number : mg "_law_number" = some (.ref F.f_law_number)
  k__law_number : PySem.W.keepIn K (.ref F.f_law_number) = true
  g_law : mg "law" = some (.ref F.f_law)
  k_law : PySem.W.keepIn K (.ref F.f_law) = true
section
variable {P : Program} {w : World} {K : PySem.W.Frag} {mg : Str → Option Value} {base : Heap} {A : Adr} {F : Fns}
theorem ok_is_number (T : Txt K mg A F) {fd : FuncData} (Dd : Fun K "is_number" "is_number" s_is_number F.f_is_number fd)
    (pure : ∀ (ds : List TC.D) (R : TC.D → Prop) (Z : Addr → Prop), ds.length = 1 → sp_is_number A ds R Z → w_is_number K A (gam0 1 ds) [] ⟨fun _ _ => R .non, fun d _ => d.pure = true ∧ R d, fun _ _ => False, fun _ _ => False, fun cl _ _ => Z cl⟩) :
    FnOk P w K mg base (L2.CX P w) 1 F.f_is_number fd ["thing"] (toSp K 1 (sp_is_number A)) :=
  fn_ok (wb := w_is_number K A) Dd sc_is_number rfl (fun S N0 H0 cdv A0 outer s H E hr =>
    (dss_cons (ds_ret (de_and (de_cb sn_isi (pe_callB call_isAny (by rfl) T.b_isinstance (by decide +kernel) (da_cons (de_var 0 (pv 0)) (da_cons (de_c (pe_bltn (v := .ty "int") (u := .type "int") (by rfl) T.b_int (by decide +kernel) rfl) (fun _ _ => .ty _)) da_nil)))) (de_one (de_not (de_cb sn_isi (pe_callB call_isAny (by rfl) T.b_isinstance (by decide +kernel) (da_cons (de_var 0 (pv 0)) (da_cons (de_c (pe_bltn (v := .ty "bool") (u := .type "bool") (by rfl) T.b_bool (by decide +kernel) rfl) (fun _ _ => .ty _)) da_nil))))))))
  dss_nil)) pure
theorem ok_size_of (T : Txt K mg A F) {fd : FuncData} (Dd : Fun K "size_of" "size_of" s_size_of F.f_size_of fd) {d_is_number : FuncData} (G_is_number : FnOk P w K mg base (L2.CX P w) 1 F.f_is_number d_is_number ["thing"] (toSp K 1 (sp_is_number A))) (B_is_number : Binds K d_is_number ["thing"] [])
    (pure : ∀ (ds : List TC.D) (R : TC.D → Prop) (Z : Addr → Prop), ds.length = 1 → sp_size_of A ds R Z → w_size_of K A (gam0 2 ds) [] ⟨fun _ _ => R .non, fun d _ => d.pure = true ∧ R d, fun _ _ => False, fun _ _ => False, fun cl _ _ => Z cl⟩) :
    FnOk P w K mg base (L2.CX P w) 2 F.f_size_of fd ["thing"] (toSp K 1 (sp_size_of A)) :=
  fn_ok (wb := w_size_of K A) Dd sc_size_of rfl (fun S N0 H0 cdv A0 outer s H E hr =>
    (dss_cons (ds_if (dw_pt (dw_or (dt_not (dt_val (de_cb sn_isi (pe_callB call_isAny (by rfl) T.b_isinstance (by decide +kernel) (da_cons (de_var 0 (pv 0)) (da_cons (de_c (pe_bltn (v := .ty "tuple") (u := .type "tuple") (by rfl) T.b_tuple (by decide +kernel) rfl) (fun _ _ => .ty _)) da_nil)))))) (dw_or1 (dt_notin rfl (de_cb sn_len (pe_callB call_len_seq (by rfl) T.b_len (by decide +kernel) (da_cons (de_var 0 (pv 0)) da_nil))) (de_c (pe_glob (v := .ref F.a_SIZES) rfl T.g_SIZES rfl) (fun _ _ => T.d_SIZES _ _ _)) (by first | rfl | exact nobehind _ (by decide) (by decide))))))
  (dss_cons (ds_ret de_int)
  dss_nil)
  dss_nil)
  (dss_cons (ds_if (dt_not (dt_val (de_cb sn_all (pe_callB (cr_all rfl) (by rfl) T.b_all (by decide +kernel) (da_cons (de_lc (own := [("part", 1)]) rfl sc_size_of.nd (di_val rfl (de_var 0 (pv 0))) (blkOk_by (own := [("part", 1)]) (N := N_size_of) (sc := defScope s_size_of) (by decide +kernel)) own_name (fun _ _ _ _ _ => pg_name (i := 1) sc_size_of.nd rfl (Or.inl rfl)) (fun _ _ _ _ _ => dts_nil) (fun _ _ _ _ _ => (de_call rfl takes0 G_is_number (hr.mono (by decide)) rfl T.g_is_number T.k_is_number B_is_number (da_cons (de_var 1 (pv 1)) da_nil)))) da_nil)))))
  (dss_cons (ds_ret de_int)
  dss_nil)
  dss_nil)
  (dss_cons (ds_ret (de_ite (dt_eq rfl hr.units (de_cb sn_sorted (pe_callB (CallR.or cr_sorted cr_sortedTup) (by rfl) T.b_sorted (by decide +kernel) (da_cons (de_var 0 (pv 0)) da_nil))) (de_lstRg rfl rfl T.b_list (rgA1 (prg_1 rfl T.b_range (de_cb sn_len (pe_callB call_len_seq (by rfl) T.b_len (by decide +kernel) (da_cons (de_var 0 (pv 0)) da_nil))))))) (de_cb sn_len (pe_callB call_len_seq (by rfl) T.b_len (by decide +kernel) (da_cons (de_var 0 (pv 0)) da_nil))) de_int))
  dss_nil)))) pure
theorem ok_need_size (T : Txt K mg A F) {fd : FuncData} (Dd : Fun K "need_size" "need_size" s_need_size F.f_need_size fd) {d_is_number : FuncData} (G_is_number : FnOk P w K mg base (L2.CX P w) 1 F.f_is_number d_is_number ["thing"] (toSp K 1 (sp_is_number A))) (B_is_number : Binds K d_is_number ["thing"] [])
    (pure : ∀ (ds : List TC.D) (R : TC.D → Prop) (Z : Addr → Prop), ds.length = 1 → sp_need_size A ds R Z → w_need_size K A (gam0 1 ds) [] ⟨fun _ _ => R .non, fun d _ => d.pure = true ∧ R d, fun _ _ => False, fun _ _ => False, fun cl _ _ => Z cl⟩) :
    FnOk P w K mg base (L2.CX P w) 2 F.f_need_size fd ["size"] (toSp K 1 (sp_need_size A)) :=
  fn_ok (wb := w_need_size K A) Dd sc_need_size rfl (fun S N0 H0 cdv A0 outer s H E hr =>
    (dss_cons (ds_if (dw_pt (dw_or (dt_not (dt_val (de_call rfl (takes_of rfl rfl rfl rfl) G_is_number (hr.mono (by decide)) rfl T.g_is_number T.k_is_number B_is_number (da_cons (de_var 0 (pv 0)) da_nil)))) (dw_or1 (dt_notin rfl (de_var 0 (pv 0)) (de_c (pe_glob (v := .ref F.a_SIZES) rfl T.g_SIZES rfl) (fun _ _ => T.d_SIZES _ _ _)) (by first | rfl | exact nobehind _ (by decide) (by decide))))))
  (dss_cons (ds_raise (ps_raise rfl (takes_of rfl rfl rfl rfl) (pmk_own PySem.F.excBase_ValueError T.x_NoSize T.g_NoSize T.k_NoSize (raises_own T.s_NoSize T.t_NoSize) (by rfl))))
  dss_nil)
  dss_nil)
  dss_nil)) pure
theorem ok_need_turn (T : Txt K mg A F) {fd : FuncData} (Dd : Fun K "need_turn" "need_turn" s_need_turn F.f_need_turn fd) {d_size_of : FuncData} (G_size_of : FnOk P w K mg base (L2.CX P w) 2 F.f_size_of d_size_of ["thing"] (toSp K 1 (sp_size_of A))) (B_size_of : Binds K d_size_of ["thing"] [])
    (pure : ∀ (ds : List TC.D) (R : TC.D → Prop) (Z : Addr → Prop), ds.length = 1 → sp_need_turn A ds R Z → w_need_turn K A (gam0 2 ds) [] ⟨fun _ _ => R .non, fun d _ => d.pure = true ∧ R d, fun _ _ => False, fun _ _ => False, fun cl _ _ => Z cl⟩) :
    FnOk P w K mg base (L2.CX P w) 3 F.f_need_turn fd ["turn"] (toSp K 1 (sp_need_turn A)) :=
  fn_ok (wb := w_need_turn K A) Dd sc_need_turn rfl (fun S N0 H0 cdv A0 outer s H E hr =>
    (dss_cons (ds_asg (ps_set (i := 1) sc_need_turn.nd rfl (Or.inl rfl) (de_call rfl (takes_of rfl rfl rfl rfl) G_size_of (hr.mono (by decide)) rfl T.g_size_of T.k_size_of B_size_of (da_cons (de_var 0 (pv 0)) da_nil))))
  (dss_cons (ds_if (dt_eq rfl hr.units (de_var 1 (pv 1)) de_int)
  (dss_cons (ds_raise (ps_raise rfl (takes_of rfl rfl rfl rfl) (pmk_own PySem.F.excBase_ValueError T.x_NoTurn T.g_NoTurn T.k_NoTurn (raises_own T.s_NoTurn T.t_NoTurn) (by rfl))))
  dss_nil)
  dss_nil)
  (dss_cons (ds_ret (de_var 1 (pv 1)))
  dss_nil)))) pure
theorem ok_put (T : Txt K mg A F) {fd : FuncData} (Dd : Fun K "put" "put" s_put F.f_put fd)
    (pure : ∀ (ds : List TC.D) (R : TC.D → Prop) (Z : Addr → Prop), ds.length = 2 → sp_put A ds R Z → w_put K A (gam0 3 ds) [] ⟨fun _ _ => R .non, fun d _ => d.pure = true ∧ R d, fun _ _ => False, fun _ _ => False, fun cl _ _ => Z cl⟩) :
    FnOk P w K mg base (L2.CX P w) 1 F.f_put fd ["one", "other"] (toSp K 2 (sp_put A)) :=
  fn_ok (wb := w_put K A) Dd sc_put rfl (fun S N0 H0 cdv A0 outer s H E hr =>
    (dss_cons (ds_ret (de_cb sn_tupOf (pe_callTy call_tupOf (by rfl) T.b_tuple (by decide +kernel) (da_cons (de_lc (own := [("k", 2)]) rfl sc_put.nd (di_val rfl (de_var 1 (pv 1))) (blkOk_by (own := [("k", 2)]) (N := N_put) (sc := defScope s_put) (by decide +kernel)) own_name (fun _ _ _ _ _ => pg_name (i := 2) sc_put.nd rfl (Or.inl rfl)) (fun _ _ _ _ _ => dts_nil) (fun _ _ _ _ _ => (de_item rfl (de_var 0 (pv 0)) (de_var 2 (pv 2))))) da_nil))))
  dss_nil)) pure
theorem ok_back (T : Txt K mg A F) {fd : FuncData} (Dd : Fun K "back" "back" s_back F.f_back fd)
    (pure : ∀ (ds : List TC.D) (R : TC.D → Prop) (Z : Addr → Prop), ds.length = 1 → sp_back A ds R Z → w_back K A (gam0 2 ds) [] ⟨fun _ _ => R .non, fun d _ => d.pure = true ∧ R d, fun _ _ => False, fun _ _ => False, fun cl _ _ => Z cl⟩) :
    FnOk P w K mg base (L2.CX P w) 1 F.f_back fd ["turn"] (toSp K 1 (sp_back A)) :=
  fn_ok (wb := w_back K A) Dd sc_back rfl (fun S N0 H0 cdv A0 outer s H E hr =>
    (dss_cons (ds_ret (de_cb sn_tupOf (pe_callTy call_tupOf (by rfl) T.b_tuple (by decide +kernel) (da_cons (de_lc (own := [("k", 1)]) rfl sc_back.nd (di_rng1 rfl T.b_range (da_cons (de_cb sn_len (pe_callB call_len_seq (by rfl) T.b_len (by decide +kernel) (da_cons (de_var 0 (pv 0)) da_nil))) da_nil)) (blkOk_by (own := [("k", 1)]) (N := N_back) (sc := defScope s_back) (by decide +kernel)) own_name (fun _ _ _ _ _ => pg_name (i := 1) sc_back.nd rfl (Or.inl rfl)) (fun _ _ _ _ _ => dts_nil) (fun _ _ _ _ _ => (de_methT rfl sn_tidx (pe_bt PySem.F.plainAttrs_tuple PySem.F.slot_tuple_index PySem.F.type_tuple_index mt_tidx (de_var 0 (pv 0)) (da_cons (de_var 1 (pv 1)) da_nil))))) da_nil))))
  dss_nil)) pure
theorem ok_plain (T : Txt K mg A F) {fd : FuncData} (Dd : Fun K "plain" "plain" s_plain F.f_plain fd) {d_need_size : FuncData} (G_need_size : FnOk P w K mg base (L2.CX P w) 2 F.f_need_size d_need_size ["size"] (toSp K 1 (sp_need_size A))) (B_need_size : Binds K d_need_size ["size"] [])
    (pure : ∀ (ds : List TC.D) (R : TC.D → Prop) (Z : Addr → Prop), ds.length = 1 → sp_plain A ds R Z → w_plain K A (gam0 1 ds) [] ⟨fun _ _ => R .non, fun d _ => d.pure = true ∧ R d, fun _ _ => False, fun _ _ => False, fun cl _ _ => Z cl⟩) :
    FnOk P w K mg base (L2.CX P w) 3 F.f_plain fd ["size"] (toSp K 1 (sp_plain A)) :=
  fn_ok (wb := w_plain K A) Dd sc_plain rfl (fun S N0 H0 cdv A0 outer s H E hr =>
    (dss_cons (ds_expr (ps_expr (de_call rfl (takes_of rfl rfl rfl rfl) G_need_size (hr.mono (by decide)) rfl T.g_need_size T.k_need_size B_need_size (da_cons (de_var 0 (pv 0)) da_nil))))
  (dss_cons (ds_ret (de_tupRg rfl rfl T.b_tuple (rgA1 (prg_1 rfl T.b_range (de_var 0 (pv 0))))))
  dss_nil))) pure
theorem ok_into (T : Txt K mg A F) {fd : FuncData} (Dd : Fun K "into" "into" s_into F.f_into fd) {d_put : FuncData} (G_put : FnOk P w K mg base (L2.CX P w) 1 F.f_put d_put ["one", "other"] (toSp K 2 (sp_put A))) (B_put : Binds K d_put ["one", "other"] []) {d_need_turn : FuncData} (G_need_turn : FnOk P w K mg base (L2.CX P w) 3 F.f_need_turn d_need_turn ["turn"] (toSp K 1 (sp_need_turn A))) (B_need_turn : Binds K d_need_turn ["turn"] [])
    (pure : ∀ (ds : List TC.D) (R : TC.D → Prop) (Z : Addr → Prop), ds.length = 2 → sp_into A ds R Z → w_into K A (gam0 2 ds) [] ⟨fun _ _ => R .non, fun d _ => d.pure = true ∧ R d, fun _ _ => False, fun _ _ => False, fun cl _ _ => Z cl⟩) :
    FnOk P w K mg base (L2.CX P w) 4 F.f_into fd ["one", "other"] (toSp K 2 (sp_into A)) :=
  fn_ok (wb := w_into K A) Dd sc_into rfl (fun S N0 H0 cdv A0 outer s H E hr =>
    (dss_cons (ds_if (dt_ne rfl hr.units (de_call rfl (takes_of rfl rfl rfl rfl) G_need_turn (hr.mono (by decide)) rfl T.g_need_turn T.k_need_turn B_need_turn (da_cons (de_var 0 (pv 0)) da_nil)) (de_call rfl (takes_of rfl rfl rfl rfl) G_need_turn (hr.mono (by decide)) rfl T.g_need_turn T.k_need_turn B_need_turn (da_cons (de_var 1 (pv 1)) da_nil)))
  (dss_cons (ds_raise (ps_raise rfl (takes_of rfl rfl rfl rfl) (pmk_own PySem.F.excBase_ValueError T.x_NoTurn T.g_NoTurn T.k_NoTurn (raises_own T.s_NoTurn T.t_NoTurn) (by rfl))))
  dss_nil)
  dss_nil)
  (dss_cons (ds_ret (de_call rfl (takes_of rfl rfl rfl rfl) G_put (hr.mono (by decide)) rfl T.g_put T.k_put B_put (da_cons (de_var 0 (pv 0)) (da_cons (de_var 1 (pv 1)) da_nil))))
  dss_nil))) pure
theorem ok_undone (T : Txt K mg A F) {fd : FuncData} (Dd : Fun K "undone" "undone" s_undone F.f_undone fd) {d_need_turn : FuncData} (G_need_turn : FnOk P w K mg base (L2.CX P w) 3 F.f_need_turn d_need_turn ["turn"] (toSp K 1 (sp_need_turn A))) (B_need_turn : Binds K d_need_turn ["turn"] []) {d_back : FuncData} (G_back : FnOk P w K mg base (L2.CX P w) 1 F.f_back d_back ["turn"] (toSp K 1 (sp_back A))) (B_back : Binds K d_back ["turn"] [])
    (pure : ∀ (ds : List TC.D) (R : TC.D → Prop) (Z : Addr → Prop), ds.length = 1 → sp_undone A ds R Z → w_undone K A (gam0 1 ds) [] ⟨fun _ _ => R .non, fun d _ => d.pure = true ∧ R d, fun _ _ => False, fun _ _ => False, fun cl _ _ => Z cl⟩) :
    FnOk P w K mg base (L2.CX P w) 4 F.f_undone fd ["turn"] (toSp K 1 (sp_undone A)) :=
  fn_ok (wb := w_undone K A) Dd sc_undone rfl (fun S N0 H0 cdv A0 outer s H E hr =>
    (dss_cons (ds_expr (ps_expr (de_call rfl (takes_of rfl rfl rfl rfl) G_need_turn (hr.mono (by decide)) rfl T.g_need_turn T.k_need_turn B_need_turn (da_cons (de_var 0 (pv 0)) da_nil))))
  (dss_cons (ds_ret (de_call rfl (takes_of rfl rfl rfl rfl) G_back (hr.mono (by decide)) rfl T.g_back T.k_back B_back (da_cons (de_var 0 (pv 0)) da_nil)))
  dss_nil))) pure
theorem ok_times (T : Txt K mg A F) {fd : FuncData} (Dd : Fun K "times" "times" s_times F.f_times fd) {d_plain : FuncData} (G_plain : FnOk P w K mg base (L2.CX P w) 3 F.f_plain d_plain ["size"] (toSp K 1 (sp_plain A))) (B_plain : Binds K d_plain ["size"] []) {d_order : FuncData} (G_order : FnOk P w K mg base (L2.CX P w) 4 F.f_order d_order ["turn"] (toSp K 1 (sp_order A))) (B_order : Binds K d_order ["turn"] []) {d_put : FuncData} (G_put : FnOk P w K mg base (L2.CX P w) 1 F.f_put d_put ["one", "other"] (toSp K 2 (sp_put A))) (B_put : Binds K d_put ["one", "other"] [])
    (pure : ∀ (ds : List TC.D) (R : TC.D → Prop) (Z : Addr → Prop), ds.length = 2 → sp_times A ds R Z → w_times K A (gam0 5 ds) [] ⟨fun _ _ => R .non, fun d _ => d.pure = true ∧ R d, fun _ _ => False, fun _ _ => False, fun cl _ _ => Z cl⟩) :
    FnOk P w K mg base (L2.CX P w) 5 F.f_times fd ["turn", "n"] (toSp K 2 (sp_times A)) :=
  fn_ok (wb := w_times K A) Dd sc_times rfl (fun S N0 H0 cdv A0 outer s H E hr =>
    (dss_cons (ds_asg (ps_set (i := 2) sc_times.nd rfl (Or.inl rfl) (de_mod (de_var 1 (pv 1)) (de_call rfl (takes_of rfl rfl rfl rfl) G_order (hr.mono (by decide)) rfl T.g_order T.k_order B_order (da_cons (de_var 0 (pv 0)) da_nil)))))
  (dss_cons (ds_asg (ps_set (i := 3) sc_times.nd rfl (Or.inl rfl) (de_call rfl (takes_of rfl rfl rfl rfl) G_plain (hr.mono (by decide)) rfl T.g_plain T.k_plain B_plain (da_cons (de_cb sn_len (pe_callB call_len_seq (by rfl) T.b_len (by decide +kernel) (da_cons (de_var 0 (pv 0)) da_nil))) da_nil))))
  (dss_cons (ds_for (passes_of rfl) rfl (di_rng1 rfl T.b_range (da_cons (de_var 2 (pv 2)) da_nil)) (dg_name (pg_name (i := 4) sc_times.nd rfl (Or.inl rfl)))
  (dss_cons (ds_asg (ps_set (i := 3) sc_times.nd rfl (Or.inl rfl) (de_call rfl (takes_of rfl rfl rfl rfl) G_put (hr.mono (by decide)) rfl T.g_put T.k_put B_put (da_cons (de_var 3 (pv 3)) (da_cons (de_var 0 (pv 0)) da_nil)))))
  dss_nil))
  (dss_cons (ds_ret (de_var 3 (pv 3)))
  dss_nil))))) pure
theorem ok_order (T : Txt K mg A F) {fd : FuncData} (Dd : Fun K "order" "order" s_order F.f_order fd) {d_plain : FuncData} (G_plain : FnOk P w K mg base (L2.CX P w) 3 F.f_plain d_plain ["size"] (toSp K 1 (sp_plain A))) (B_plain : Binds K d_plain ["size"] []) {d_need_turn : FuncData} (G_need_turn : FnOk P w K mg base (L2.CX P w) 3 F.f_need_turn d_need_turn ["turn"] (toSp K 1 (sp_need_turn A))) (B_need_turn : Binds K d_need_turn ["turn"] []) {d_put : FuncData} (G_put : FnOk P w K mg base (L2.CX P w) 1 F.f_put d_put ["one", "other"] (toSp K 2 (sp_put A))) (B_put : Binds K d_put ["one", "other"] [])
    (pure : ∀ (ds : List TC.D) (R : TC.D → Prop) (Z : Addr → Prop), ds.length = 1 → sp_order A ds R Z → w_order K A (gam0 4 ds) [] ⟨fun _ _ => R .non, fun d _ => d.pure = true ∧ R d, fun _ _ => False, fun _ _ => False, fun cl _ _ => Z cl⟩) :
    FnOk P w K mg base (L2.CX P w) 4 F.f_order fd ["turn"] (toSp K 1 (sp_order A)) :=
  fn_ok (wb := w_order K A) Dd sc_order rfl (fun S N0 H0 cdv A0 outer s H E hr =>
    (dss_cons (ds_asg (ps_set (i := 1) sc_order.nd rfl (Or.inl rfl) (de_call rfl (takes_of rfl rfl rfl rfl) G_plain (hr.mono (by decide)) rfl T.g_plain T.k_plain B_plain (da_cons (de_call rfl (takes_of rfl rfl rfl rfl) G_need_turn (hr.mono (by decide)) rfl T.g_need_turn T.k_need_turn B_need_turn (da_cons (de_var 0 (pv 0)) da_nil)) da_nil))))
  (dss_cons (ds_asg (ps_set (i := 2) sc_order.nd rfl (Or.inl rfl) (de_var 0 (pv 0))))
  (dss_cons (ds_asg (ps_set (i := 3) sc_order.nd rfl (Or.inl rfl) de_int))
  (dss_cons (ds_while (passes_of rfl) (dt_ne rfl hr.units (de_var 2 (pv 2)) (de_var 1 (pv 1)))
  (dss_cons (ds_asg (ps_set (i := 2) sc_order.nd rfl (Or.inl rfl) (de_call rfl (takes_of rfl rfl rfl rfl) G_put (hr.mono (by decide)) rfl T.g_put T.k_put B_put (da_cons (de_var 2 (pv 2)) (da_cons (de_var 0 (pv 0)) da_nil)))))
  (dss_cons (ds_aug sn_iadd (ps_aug (i := 3) sc_order.nd rfl (Or.inl rfl) de_int ip_addI))
  dss_nil)))
  (dss_cons (ds_ret (de_var 3 (pv 3)))
  dss_nil)))))) pure
theorem ok_sign (T : Txt K mg A F) {fd : FuncData} (Dd : Fun K "sign" "sign" s_sign F.f_sign fd) {d_need_turn : FuncData} (G_need_turn : FnOk P w K mg base (L2.CX P w) 3 F.f_need_turn d_need_turn ["turn"] (toSp K 1 (sp_need_turn A))) (B_need_turn : Binds K d_need_turn ["turn"] [])
    (pure : ∀ (ds : List TC.D) (R : TC.D → Prop) (Z : Addr → Prop), ds.length = 1 → sp_sign A ds R Z → w_sign K A (gam0 5 ds) [] ⟨fun _ _ => R .non, fun d _ => d.pure = true ∧ R d, fun _ _ => False, fun _ _ => False, fun cl _ _ => Z cl⟩) :
    FnOk P w K mg base (L2.CX P w) 4 F.f_sign fd ["turn"] (toSp K 1 (sp_sign A)) :=
  fn_ok (wb := w_sign K A) Dd sc_sign rfl (fun S N0 H0 cdv A0 outer s H E hr =>
    (dss_cons (ds_asg (ps_set (i := 1) sc_sign.nd rfl (Or.inl rfl) (de_call rfl (takes_of rfl rfl rfl rfl) G_need_turn (hr.mono (by decide)) rfl T.g_need_turn T.k_need_turn B_need_turn (da_cons (de_var 0 (pv 0)) da_nil))))
  (dss_cons (ds_asg (ps_set (i := 2) sc_sign.nd rfl (Or.inl rfl) de_int))
  (dss_cons (ds_for (passes_of rfl) rfl (di_rng1 rfl T.b_range (da_cons (de_var 1 (pv 1)) da_nil)) (dg_name (pg_name (i := 3) sc_sign.nd rfl (Or.inl rfl)))
  (dss_cons (ds_for (passes_of rfl) rfl (di_rng1 rfl T.b_range (da_cons (de_var 3 (pv 3)) da_nil)) (dg_name (pg_name (i := 4) sc_sign.nd rfl (Or.inl rfl)))
  (dss_cons (ds_if (dt_gt (de_item rfl (de_var 0 (pv 0)) (de_var 4 (pv 4))) (de_item rfl (de_var 0 (pv 0)) (de_var 3 (pv 3))))
  (dss_cons (ds_asg (ps_set (i := 2) sc_sign.nd rfl (Or.inl rfl) (de_neg (de_var 2 (pv 2)))))
  dss_nil)
  dss_nil)
  dss_nil))
  dss_nil))
  (dss_cons (ds_ret (de_var 2 (pv 2)))
  dss_nil))))) pure
theorem ok_law_state (T : Txt K mg A F) {fd : FuncData} (Dd : Fun K "_law_state" "_law_state" s_law_state F.f_law_state fd)
    (pure : ∀ (ds : List TC.D) (R : TC.D → Prop) (Z : Addr → Prop), ds.length = 1 → sp_law_state A ds R Z → w_law_state K A (gam0 2 ds) [] ⟨fun _ _ => R .non, fun d _ => d.pure = true ∧ R d, fun _ _ => False, fun _ _ => False, fun cl _ _ => Z cl⟩) :
    FnOk P w K mg base (L2.CX P w) 1 F.f_law_state fd ["script"] (toSp K 1 (sp_law_state A)) :=
  fn_ok (wb := w_law_state K A) Dd sc_law_state rfl (fun S N0 H0 cdv A0 outer s H E hr =>
    (dss_cons (ds_ret (de_lst (da_cons (de_orL rfl (de_lc (own := [("cell", 1)]) rfl sc_law_state.nd (di_val rfl (de_slice rfl (de_var 0 (pv 0)) do_none (do_some de_int))) (blkOk_by (own := [("cell", 1)]) (N := N_law_state) (sc := defScope s_law_state) (by decide +kernel)) own_name (fun _ _ _ _ _ => pg_name (i := 1) sc_law_state.nd rfl (Or.inl rfl)) (fun _ _ _ _ _ => dts_nil) (fun _ _ _ _ _ => (de_cb sn_abs (pe_callB call_abs (by rfl) T.b_abs (by decide +kernel) (da_cons (de_var 1 (pv 1)) da_nil))))) (de_one (de_lst (da_cons de_int da_nil)))) (da_cons de_int (da_cons de_int da_nil)))))
  dss_nil)) pure
theorem ok_law_pick (T : Txt K mg A F) {fd : FuncData} (Dd : Fun K "_law_pick" "_law_pick" s_law_pick F.f_law_pick fd) {d_law_draw : FuncData} (G_law_draw : FnOk P w K mg base (L2.CX P w) 1 F.f_law_draw d_law_draw ["state", "many"] (toSp K 2 (sp_law_draw A))) (B_law_draw : Binds K d_law_draw ["state", "many"] [])
    (pure : ∀ (ds : List TC.D) (R : TC.D → Prop) (Z : Addr → Prop), ds.length = 2 → sp_law_pick A ds R Z → w_law_pick K A (gam0 2 ds) [] ⟨fun _ _ => R .non, fun d _ => d.pure = true ∧ R d, fun _ _ => False, fun _ _ => False, fun cl _ _ => Z cl⟩) :
    FnOk P w K mg base (L2.CX P w) 2 F.f_law_pick fd ["state", "some"] (toSp K 2 (sp_law_pick A)) :=
  fn_ok (wb := w_law_pick K A) Dd sc_law_pick rfl (fun S N0 H0 cdv A0 outer s H E hr =>
    (dss_cons (ds_ret (de_item rfl (de_var 1 (pv 1)) (de_call rfl (takes_of rfl rfl rfl rfl) G_law_draw (hr.mono (by decide)) rfl T.g__law_draw T.k__law_draw B_law_draw (da_cons (de_var 0 (pv 0)) (da_cons (de_cb sn_len (pe_callB call_len_seq (by rfl) T.b_len (by decide +kernel) (da_cons (de_var 1 (pv 1)) da_nil))) da_nil)))))
  dss_nil)) pure
theorem ok_law_mixed (T : Txt K mg A F) {fd : FuncData} (Dd : Fun K "_law_mixed" "_law_mixed" s_law_mixed F.f_law_mixed fd) {d_law_draw : FuncData} (G_law_draw : FnOk P w K mg base (L2.CX P w) 1 F.f_law_draw d_law_draw ["state", "many"] (toSp K 2 (sp_law_draw A))) (B_law_draw : Binds K d_law_draw ["state", "many"] [])
    (pure : ∀ (ds : List TC.D) (R : TC.D → Prop) (Z : Addr → Prop), ds.length = 2 → sp_law_mixed A ds R Z → w_law_mixed K A (gam0 4 ds) [] ⟨fun _ _ => R .non, fun d _ => d.pure = true ∧ R d, fun _ _ => False, fun _ _ => False, fun cl _ _ => Z cl⟩) :
    FnOk P w K mg base (L2.CX P w) 2 F.f_law_mixed fd ["state", "some"] (toSp K 2 (sp_law_mixed A)) :=
  fn_ok (wb := w_law_mixed K A) Dd sc_law_mixed rfl (fun S N0 H0 cdv A0 outer s H E hr =>
    (dss_cons (ds_par (ps_par (i := 2) (j := 3) (by rfl) sc_law_mixed.nd rfl rfl (by decide) rfl rfl (da_cons (de_cb sn_lstOfM (pe_callTy call_list_of (by rfl) T.b_list (by decide +kernel) (da_cons (de_var 1 (pv 1)) da_nil))) (da_cons (de_lstM da_nil) da_nil)) (by rfl)))
  (dss_cons (ds_while (passes_of rfl) (dt_ne rfl hr.units (de_var 2 (pv 2)) (de_lst da_nil))
  (dss_cons (ds_expr (ps_expr (de_meth rfl sn_append (pe_bm PySem.F.plainAttrs_list PySem.F.slot_list_append PySem.F.type_list_append mt_append (de_var 3 (pv 3)) (da_cons (de_meth rfl sn_popAt (pe_bm PySem.F.plainAttrs_list PySem.F.slot_list_pop PySem.F.type_list_pop mt_popAt (de_var 2 (pv 2)) (da_cons (de_call rfl (takes_of rfl rfl rfl rfl) G_law_draw (hr.mono (by decide)) rfl T.g__law_draw T.k__law_draw B_law_draw (da_cons (de_var 0 (pv 0)) (da_cons (de_cb sn_len (pe_callB call_len_seq (by rfl) T.b_len (by decide +kernel) (da_cons (de_var 2 (pv 2)) da_nil))) da_nil))) da_nil))) da_nil)))))
  dss_nil))
  (dss_cons (ds_ret (de_frz (de_var 3 (pv 3))))
  dss_nil)))) pure
theorem ok_law_a_turn (T : Txt K mg A F) {fd : FuncData} (Dd : Fun K "_law_a_turn" "_law_a_turn" s_law_a_turn F.f_law_a_turn fd) {d_law_draw : FuncData} (G_law_draw : FnOk P w K mg base (L2.CX P w) 1 F.f_law_draw d_law_draw ["state", "many"] (toSp K 2 (sp_law_draw A))) (B_law_draw : Binds K d_law_draw ["state", "many"] []) {d_law_mixed : FuncData} (G_law_mixed : FnOk P w K mg base (L2.CX P w) 2 F.f_law_mixed d_law_mixed ["state", "some"] (toSp K 2 (sp_law_mixed A))) (B_law_mixed : Binds K d_law_mixed ["state", "some"] [])
    (pure : ∀ (ds : List TC.D) (R : TC.D → Prop) (Z : Addr → Prop), ds.length = 2 → sp_law_a_turn A ds R Z → w_law_a_turn K A (gam0 4 ds) [] ⟨fun _ _ => R .non, fun d _ => d.pure = true ∧ R d, fun _ _ => False, fun _ _ => False, fun cl _ _ => Z cl⟩) :
    FnOk P w K mg base (L2.CX P w) 3 F.f_law_a_turn fd ["state", "size"] (toSp K 2 (sp_law_a_turn A)) :=
  fn_ok (wb := w_law_a_turn K A) Dd sc_law_a_turn rfl (fun S N0 H0 cdv A0 outer s H E hr =>
    (dss_cons (ds_asg (ps_set (i := 2) sc_law_a_turn.nd rfl (Or.inl rfl) (de_call rfl (takes_of rfl rfl rfl rfl) G_law_draw (hr.mono (by decide)) rfl T.g__law_draw T.k__law_draw B_law_draw (da_cons (de_var 0 (pv 0)) (da_cons de_int da_nil)))))
  (dss_cons (ds_if (dt_eq rfl hr.units (de_var 2 (pv 2)) de_int)
  (dss_cons (ds_ret (de_tupRg rfl rfl T.b_tuple (rgA1 (prg_1 rfl T.b_range (de_var 1 (pv 1))))))
  dss_nil)
  dss_nil)
  (dss_cons (ds_if (dt_eq rfl hr.units (de_var 2 (pv 2)) de_int)
  (dss_cons (ds_asg (ps_set (i := 3) sc_law_a_turn.nd rfl (Or.inl rfl) (de_call rfl (takes_of rfl rfl rfl rfl) G_law_draw (hr.mono (by decide)) rfl T.g__law_draw T.k__law_draw B_law_draw (da_cons (de_var 0 (pv 0)) (da_cons (de_sub (de_var 1 (pv 1)) de_int) da_nil)))))
  (dss_cons (ds_ret (de_add rfl (de_add rfl (de_tupRg rfl rfl T.b_tuple (rgA1 (prg_1 rfl T.b_range (de_var 3 (pv 3))))) (de_tup (da_cons (de_add rfl (de_var 3 (pv 3)) de_int) (da_cons (de_var 3 (pv 3)) da_nil)))) (de_tupRg rfl rfl T.b_tuple (rgA2 (prg_2 rfl T.b_range (de_add rfl (de_var 3 (pv 3)) de_int) (de_var 1 (pv 1)))))))
  dss_nil))
  dss_nil)
  (dss_cons (ds_ret (de_cb sn_tupOf (pe_callTy call_tupOf (by rfl) T.b_tuple (by decide +kernel) (da_cons (de_call rfl (takes_of rfl rfl rfl rfl) G_law_mixed (hr.mono (by decide)) rfl T.g__law_mixed T.k__law_mixed B_law_mixed (da_cons (de_var 0 (pv 0)) (da_cons (de_lstRg rfl rfl T.b_list (rgA1 (prg_1 rfl T.b_range (de_var 1 (pv 1))))) da_nil))) da_nil))))
  dss_nil))))) pure
theorem ok_law_exact (T : Txt K mg A F) {fd : FuncData} (Dd : Fun K "_law_exact" "_law_exact" s_law_exact F.f_law_exact fd)
    (pure : ∀ (ds : List TC.D) (R : TC.D → Prop) (Z : Addr → Prop), ds.length = 2 → sp_law_exact A ds R Z → w_law_exact K A (gam0 3 ds) [] ⟨fun _ _ => R .non, fun d _ => d.pure = true ∧ R d, fun _ _ => False, fun _ _ => False, fun cl _ _ => Z cl⟩) :
    FnOk P w K mg base (L2.CX P w) 1 F.f_law_exact fd ["found", "due"] (toSp K 2 (sp_law_exact A)) :=
  fn_ok (wb := w_law_exact K A) Dd sc_law_exact rfl (fun S N0 H0 cdv A0 outer s H E hr =>
    (dss_cons (ds_if (dw_pt (dw_or (dt_not (dt_val (de_cb sn_isi (pe_callB call_isAny (by rfl) T.b_isinstance (by decide +kernel) (da_cons (de_var 0 (pv 0)) (da_cons (de_c (pe_bltn (v := .ty "tuple") (u := .type "tuple") (by rfl) T.b_tuple (by decide +kernel) rfl) (fun _ _ => .ty _)) da_nil)))))) (dw_or1 (dt_ne rfl hr.units (de_var 0 (pv 0)) (de_var 1 (pv 1))))))
  (dss_cons (ds_ret de_bl)
  dss_nil)
  dss_nil)
  (dss_cons (ds_ret (de_eq rfl hr.units (de_lc (own := [("one", 2)]) rfl sc_law_exact.nd (di_val rfl (de_var 0 (pv 0))) (blkOk_by (own := [("one", 2)]) (N := N_law_exact) (sc := defScope s_law_exact) (by decide +kernel)) own_name (fun _ _ _ _ _ => pg_name (i := 2) sc_law_exact.nd rfl (Or.inl rfl)) (fun _ _ _ _ _ => (dts_one (dw_pt (dw_or (dt_val (de_cb sn_isi (pe_callB call_isAny (by rfl) T.b_isinstance (by decide +kernel) (da_cons (de_var 2 (pv 2)) (da_cons (de_c (pe_bltn (v := .ty "bool") (u := .type "bool") (by rfl) T.b_bool (by decide +kernel) rfl) (fun _ _ => .ty _)) da_nil))))) (dw_or1 (dt_not (dt_val (de_cb sn_isi (pe_callB call_isAny (by rfl) T.b_isinstance (by decide +kernel) (da_cons (de_var 2 (pv 2)) (da_cons (de_c (pe_bltn (v := .ty "int") (u := .type "int") (by rfl) T.b_int (by decide +kernel) rfl) (fun _ _ => .ty _)) da_nil))))))))))) (fun _ _ _ _ _ => (de_var 2 (pv 2)))) (de_lst da_nil)))
  dss_nil))) pure
theorem ok_law_whole (T : Txt K mg A F) {fd : FuncData} (Dd : Fun K "_law_whole" "_law_whole" s_law_whole F.f_law_whole fd)
    (pure : ∀ (ds : List TC.D) (R : TC.D → Prop) (Z : Addr → Prop), ds.length = 2 → sp_law_whole A ds R Z → w_law_whole K A (gam0 2 ds) [] ⟨fun _ _ => R .non, fun d _ => d.pure = true ∧ R d, fun _ _ => False, fun _ _ => False, fun cl _ _ => Z cl⟩) :
    FnOk P w K mg base (L2.CX P w) 1 F.f_law_whole fd ["found", "due"] (toSp K 2 (sp_law_whole A)) :=
  fn_ok (wb := w_law_whole K A) Dd sc_law_whole rfl (fun S N0 H0 cdv A0 outer s H E hr =>
    (dss_cons (ds_ret (de_and (de_cb sn_isi (pe_callB call_isAny (by rfl) T.b_isinstance (by decide +kernel) (da_cons (de_var 0 (pv 0)) (da_cons (de_c (pe_bltn (v := .ty "int") (u := .type "int") (by rfl) T.b_int (by decide +kernel) rfl) (fun _ _ => .ty _)) da_nil)))) (de_and (de_not (de_cb sn_isi (pe_callB call_isAny (by rfl) T.b_isinstance (by decide +kernel) (da_cons (de_var 0 (pv 0)) (da_cons (de_c (pe_bltn (v := .ty "bool") (u := .type "bool") (by rfl) T.b_bool (by decide +kernel) rfl) (fun _ _ => .ty _)) da_nil))))) (de_one (de_eq rfl hr.units (de_var 0 (pv 0)) (de_var 1 (pv 1)))))))
  dss_nil)) pure
theorem ok_law_cycles (T : Txt K mg A F) {fd : FuncData} (Dd : Fun K "_law_cycles" "_law_cycles" s_law_cycles F.f_law_cycles fd)
    (pure : ∀ (ds : List TC.D) (R : TC.D → Prop) (Z : Addr → Prop), ds.length = 1 → sp_law_cycles A ds R Z → w_law_cycles K A (gam0 6 ds) [] ⟨fun _ _ => R .non, fun d _ => d.pure = true ∧ R d, fun _ _ => False, fun _ _ => False, fun cl _ _ => Z cl⟩) :
    FnOk P w K mg base (L2.CX P w) 1 F.f_law_cycles fd ["turn"] (toSp K 1 (sp_law_cycles A)) :=
  fn_ok (wb := w_law_cycles K A) Dd sc_law_cycles rfl (fun S N0 H0 cdv A0 outer s H E hr =>
    (dss_cons (ds_par (ps_par (i := 2) (j := 3) (by rfl) sc_law_cycles.nd rfl rfl (by decide) rfl rfl (da_cons (de_lstM da_nil) (da_cons (de_lstM da_nil) da_nil)) (by rfl)))
  (dss_cons (ds_for (passes_of rfl) rfl (di_rng1 rfl T.b_range (da_cons (de_cb sn_len (pe_callB call_len_seq (by rfl) T.b_len (by decide +kernel) (da_cons (de_var 0 (pv 0)) da_nil))) da_nil)) (dg_name (pg_name (i := 1) sc_law_cycles.nd rfl (Or.inl rfl)))
  (dss_cons (ds_par (ps_par (i := 4) (j := 5) (by rfl) sc_law_cycles.nd rfl rfl (by decide) rfl rfl (da_cons (de_lstM da_nil) (da_cons (de_var 1 (pv 1)) da_nil)) (by rfl)))
  (dss_cons (ds_while (passes_of rfl) (dt_notin rfl (de_var 5 (pv 5)) (de_var 3 (pv 3)) (by first | rfl | exact nobehind _ (by decide) (by decide)))
  (dss_cons (ds_expr (ps_expr (de_meth rfl sn_append (pe_bm PySem.F.plainAttrs_list PySem.F.slot_list_append PySem.F.type_list_append mt_append (de_var 3 (pv 3)) (da_cons (de_var 5 (pv 5)) da_nil)))))
  (dss_cons (ds_expr (ps_expr (de_meth rfl sn_append (pe_bm PySem.F.plainAttrs_list PySem.F.slot_list_append PySem.F.type_list_append mt_append (de_var 4 (pv 4)) (da_cons (de_var 5 (pv 5)) da_nil)))))
  (dss_cons (ds_asg (ps_set (i := 5) sc_law_cycles.nd rfl (Or.inl rfl) (de_item rfl (de_var 0 (pv 0)) (de_var 5 (pv 5)))))
  dss_nil))))
  (dss_cons (ds_if (dt_ne rfl hr.units (de_var 4 (pv 4)) (de_lst da_nil))
  (dss_cons (ds_expr (ps_expr (de_meth rfl sn_append (pe_bm PySem.F.plainAttrs_list PySem.F.slot_list_append PySem.F.type_list_append mt_append (de_var 2 (pv 2)) (da_cons (de_frz (de_var 4 (pv 4))) da_nil)))))
  dss_nil)
  dss_nil)
  dss_nil))))
  (dss_cons (ds_ret (de_frz (de_var 2 (pv 2))))
  dss_nil)))) pure
theorem ok_law_led_on (T : Txt K mg A F) {fd : FuncData} (Dd : Fun K "_law_led_on" "_law_led_on" s_law_led_on F.f_law_led_on fd)
    (pure : ∀ (ds : List TC.D) (R : TC.D → Prop) (Z : Addr → Prop), ds.length = 3 → sp_law_led_on A ds R Z → w_law_led_on K A (gam0 6 ds) [] ⟨fun _ _ => R .non, fun d _ => d.pure = true ∧ R d, fun _ _ => False, fun _ _ => False, fun cl _ _ => Z cl⟩) :
    FnOk P w K mg base (L2.CX P w) 1 F.f_law_led_on fd ["cycles", "size", "n"] (toSp K 3 (sp_law_led_on A)) :=
  fn_ok (wb := w_law_led_on K A) Dd sc_law_led_on rfl (fun S N0 H0 cdv A0 outer s H E hr =>
    (dss_cons (ds_asg (ps_set (i := 3) sc_law_led_on.nd rfl (Or.inl rfl) (de_mulM (de_lst (da_cons de_int da_nil)) (de_var 1 (pv 1)))))
  (dss_cons (ds_for (passes_of rfl) rfl (di_val rfl (de_var 0 (pv 0))) (dg_name (pg_name (i := 4) sc_law_led_on.nd rfl (Or.inl rfl)))
  (dss_cons (ds_for (passes_of rfl) rfl (di_rng1 rfl T.b_range (da_cons (de_cb sn_len (pe_callB call_len_seq (by rfl) T.b_len (by decide +kernel) (da_cons (de_var 4 (pv 4)) da_nil))) da_nil)) (dg_name (pg_name (i := 5) sc_law_led_on.nd rfl (Or.inl rfl)))
  (dss_cons (ds_setL (ps_asg (de_item rfl (de_var 4 (pv 4)) (de_mod (de_add rfl (de_var 5 (pv 5)) (de_var 2 (pv 2))) (de_cb sn_len (pe_callB call_len_seq (by rfl) T.b_len (by decide +kernel) (da_cons (de_var 4 (pv 4)) da_nil))))) (pg_sub (de_var 3 (pv 3)) (de_item rfl (de_var 4 (pv 4)) (de_var 5 (pv 5))) set_list)))
  dss_nil))
  dss_nil))
  (dss_cons (ds_ret (de_cb sn_tupOf (pe_callTy call_tupOf (by rfl) T.b_tuple (by decide +kernel) (da_cons (de_var 3 (pv 3)) da_nil))))
  dss_nil)))) pure
theorem ok_law_comes_round (T : Txt K mg A F) {fd : FuncData} (Dd : Fun K "_law_comes_round" "_law_comes_round" s_law_comes_round F.f_law_comes_round fd)
    (pure : ∀ (ds : List TC.D) (R : TC.D → Prop) (Z : Addr → Prop), ds.length = 1 → sp_law_comes_round A ds R Z → w_law_comes_round K A (gam0 3 ds) [] ⟨fun _ _ => R .non, fun d _ => d.pure = true ∧ R d, fun _ _ => False, fun _ _ => False, fun cl _ _ => Z cl⟩) :
    FnOk P w K mg base (L2.CX P w) 1 F.f_law_comes_round fd ["cycles"] (toSp K 1 (sp_law_comes_round A)) :=
  fn_ok (wb := w_law_comes_round K A) Dd sc_law_comes_round rfl (fun S N0 H0 cdv A0 outer s H E hr =>
    (dss_cons (ds_asg (ps_set (i := 1) sc_law_comes_round.nd rfl (Or.inr rfl) de_int))
  (dss_cons (ds_while (passes_of rfl) (dt_ne rfl hr.units (de_lc (own := [("row", 2)]) rfl sc_law_comes_round.nd (di_val rfl (de_var 0 (pv 0))) (blkOk_by (own := [("row", 2)]) (N := N_law_comes_round) (sc := defScope s_law_comes_round) (by decide +kernel)) own_name (fun _ _ _ _ _ => pg_name (i := 2) sc_law_comes_round.nd rfl (Or.inl rfl)) (fun _ _ _ _ _ => (dts_one (dt_ne rfl hr.units (de_mod (de_var 1 (pv 1)) (de_cb sn_len (pe_callB call_len_seq (by rfl) T.b_len (by decide +kernel) (da_cons (de_var 2 (pv 2)) da_nil)))) de_int))) (fun _ _ _ _ _ => (de_var 2 (pv 2)))) (de_lst da_nil))
  (dss_cons (ds_asg (ps_set (i := 1) sc_law_comes_round.nd rfl (Or.inr rfl) (de_add rfl (de_var 1 (pv 1)) de_int)))
  dss_nil))
  (dss_cons (ds_ret (de_var 1 (pv 1)))
  dss_nil)))) pure
theorem ok_law_number (T : Txt K mg A F) {fd : FuncData} (Dd : Fun K "_law_number" "_law_number" s_law_number F.f_law_number fd) {d_law_pick : FuncData} (G_law_pick : FnOk P w K mg base (L2.CX P w) 2 F.f_law_pick d_law_pick ["state", "some"] (toSp K 2 (sp_law_pick A))) (B_law_pick : Binds K d_law_pick ["state", "some"] []) {d_law_draw : FuncData} (G_law_draw : FnOk P w K mg base (L2.CX P w) 1 F.f_law_draw d_law_draw ["state", "many"] (toSp K 2 (sp_law_draw A))) (B_law_draw : Binds K d_law_draw ["state", "many"] [])
    (pure : ∀ (ds : List TC.D) (R : TC.D → Prop) (Z : Addr → Prop), ds.length = 2 → sp_law_number A ds R Z → w_law_number K A (gam0 3 ds) [] ⟨fun _ _ => R .non, fun d _ => d.pure = true ∧ R d, fun _ _ => False, fun _ _ => False, fun cl _ _ => Z cl⟩) :
    FnOk P w K mg base (L2.CX P w) 3 F.f_law_number fd ["state", "round_of_all"] (toSp K 2 (sp_law_number A)) :=
  fn_ok (wb := w_law_number K A) Dd sc_law_number rfl (fun S N0 H0 cdv A0 outer s H E hr =>
    (dss_cons (ds_asg (ps_set (i := 2) sc_law_number.nd rfl (Or.inl rfl) (de_lst (da_cons (de_sub (de_call rfl (takes_of rfl rfl rfl rfl) G_law_draw (hr.mono (by decide)) rfl T.g__law_draw T.k__law_draw B_law_draw (da_cons (de_var 0 (pv 0)) (da_cons de_int da_nil))) de_int) (da_cons (de_var 1 (pv 1)) (da_cons (de_mul rfl (de_var 1 (pv 1)) (de_sub (de_call rfl (takes_of rfl rfl rfl rfl) G_law_draw (hr.mono (by decide)) rfl T.g__law_draw T.k__law_draw B_law_draw (da_cons (de_var 0 (pv 0)) (da_cons de_int da_nil))) de_int)) (da_cons (de_sub (de_var 1 (pv 1)) de_int) da_nil)))))))
  (dss_cons (ds_ret (de_call rfl (takes_of rfl rfl rfl rfl) G_law_pick (hr.mono (by decide)) rfl T.g__law_pick T.k__law_pick B_law_pick (da_cons (de_var 0 (pv 0)) (da_cons (de_add rfl (de_var 2 (pv 2)) (de_lst (da_cons (de_call rfl (takes_of rfl rfl rfl rfl) G_law_draw (hr.mono (by decide)) rfl T.g__law_draw T.k__law_draw B_law_draw (da_cons (de_var 0 (pv 0)) (da_cons (de_pow de_int de_int) da_nil))) (da_cons (de_sub de_int (de_call rfl (takes_of rfl rfl rfl rfl) G_law_draw (hr.mono (by decide)) rfl T.g__law_draw T.k__law_draw B_law_draw (da_cons (de_var 0 (pv 0)) (da_cons (de_pow de_int de_int) da_nil)))) (da_cons de_int (da_cons (de_neg de_int) da_nil)))))) da_nil))))
  dss_nil))) pure
theorem ok_law_draw (T : Txt K mg A F) {fd : FuncData} (Dd : Fun K "_law_draw" "_law_draw" s_law_draw F.f_law_draw fd) : FnOk P w K mg base (L2.CX P w) 1 F.f_law_draw fd ["state", "many"] (toSp K 2 (sp_law_draw A)) :=
  Dd.okX sc_law_draw (fun vs H Q E h => h.1) fun cdv A0 outer s H vs Q E hr h => ⟨t_draw K, (pss_cons (ps_set (i := 2) sc_law_draw.nd rfl (Or.inl rfl) (pe_ix ix_list (pv 0) pe_int (fun _ _ => rfl)))
    (pss_cons (ps_set (i := 3) sc_law_draw.nd rfl (Or.inl rfl) (pe_op op_modN (pe_ix ix_list (pv 0) pe_int (fun _ _ => rfl)) (pe_callB call_len_seq (by rfl) T.b_len (by decide +kernel) (pa_cons (pv 2) pa_nil))))
    (pss_cons (ps_set (i := 4) sc_law_draw.nd rfl (Or.inl rfl) (pe_ix ix_list (pv 2) (pv 3) (fun _ _ => rfl)))
    (pss_cons (ps_if (pt_cmpR op_ge (pv 4) pe_int (nomark _)) (pss_cons (ps_asg (pe_op op_fdivW (pv 4) (pv 1)) (pg_sub (pv 2) (pv 3) set_list)) (pss_cons (ps_ret (pe_op op_modN (pv 4) (pv 1))) pss_nil)) pss_nil)
    (pss_cons (ps_asg (pe_op op_add (pe_ix ix_list (pv 0) pe_int (fun _ _ => rfl)) pe_int) (pg_sub (pv 0) pe_int set_list))
    (pss_cons (ps_asg (pe_op op_modN (pe_op op_add (pe_op op_add (pe_op op_mul (pe_ix ix_list (pv 0) pe_int (fun _ _ => rfl)) pe_int) (pv 4)) pe_int) pe_int) (pg_sub (pv 0) pe_int set_list))
    (pss_cons (ps_ret (pe_op op_modN (pe_op op_fdivW (pe_op op_modN (pe_op op_mul (pe_ix ix_list (pv 0) pe_int (fun _ _ => rfl)) (pe_ix ix_list (pv 0) pe_int (fun _ _ => rfl))) pe_int) pe_int) (pv 1)))
    pss_nil))))))), draw_read h⟩
theorem ok_law (T : Txt K mg A F) {fd : FuncData} (Dd : Fun K "law" "law" s_law F.f_law fd) {d_law_state : FuncData} (G_law_state : FnOk P w K mg base (L2.CX P w) 1 F.f_law_state d_law_state ["script"] (toSp K 1 (sp_law_state A))) (B_law_state : Binds K d_law_state ["script"] []) {d_law_cycles : FuncData} (G_law_cycles : FnOk P w K mg base (L2.CX P w) 1 F.f_law_cycles d_law_cycles ["turn"] (toSp K 1 (sp_law_cycles A))) (B_law_cycles : Binds K d_law_cycles ["turn"] []) {d_into : FuncData} (G_into : FnOk P w K mg base (L2.CX P w) 4 F.f_into d_into ["one", "other"] (toSp K 2 (sp_into A))) (B_into : Binds K d_into ["one", "other"] []) {d_law_draw : FuncData} (G_law_draw : FnOk P w K mg base (L2.CX P w) 1 F.f_law_draw d_law_draw ["state", "many"] (toSp K 2 (sp_law_draw A))) (B_law_draw : Binds K d_law_draw ["state", "many"] []) {d_law_a_turn : FuncData} (G_law_a_turn : FnOk P w K mg base (L2.CX P w) 3 F.f_law_a_turn d_law_a_turn ["state", "size"] (toSp K 2 (sp_law_a_turn A))) (B_law_a_turn : Binds K d_law_a_turn ["state", "size"] []) {d_law_comes_round : FuncData} (G_law_comes_round : FnOk P w K mg base (L2.CX P w) 1 F.f_law_comes_round d_law_comes_round ["cycles"] (toSp K 1 (sp_law_comes_round A))) (B_law_comes_round : Binds K d_law_comes_round ["cycles"] []) {d_law_number : FuncData} (G_law_number : FnOk P w K mg base (L2.CX P w) 3 F.f_law_number d_law_number ["state", "round_of_all"] (toSp K 2 (sp_law_number A))) (B_law_number : Binds K d_law_number ["state", "round_of_all"] []) {d_undone : FuncData} (G_undone : FnOk P w K mg base (L2.CX P w) 4 F.f_undone d_undone ["turn"] (toSp K 1 (sp_undone A))) (B_undone : Binds K d_undone ["turn"] []) {d_law_whole : FuncData} (G_law_whole : FnOk P w K mg base (L2.CX P w) 1 F.f_law_whole d_law_whole ["found", "due"] (toSp K 2 (sp_law_whole A))) (B_law_whole : Binds K d_law_whole ["found", "due"] []) {d_law_exact : FuncData} (G_law_exact : FnOk P w K mg base (L2.CX P w) 1 F.f_law_exact d_law_exact ["found", "due"] (toSp K 2 (sp_law_exact A))) (B_law_exact : Binds K d_law_exact ["found", "due"] []) {d_times : FuncData} (G_times : FnOk P w K mg base (L2.CX P w) 5 F.f_times d_times ["turn", "n"] (toSp K 2 (sp_times A))) (B_times : Binds K d_times ["turn", "n"] []) {d_plain : FuncData} (G_plain : FnOk P w K mg base (L2.CX P w) 3 F.f_plain d_plain ["size"] (toSp K 1 (sp_plain A))) (B_plain : Binds K d_plain ["size"] []) {d_sign : FuncData} (G_sign : FnOk P w K mg base (L2.CX P w) 4 F.f_sign d_sign ["turn"] (toSp K 1 (sp_sign A))) (B_sign : Binds K d_sign ["turn"] []) {d_order : FuncData} (G_order : FnOk P w K mg base (L2.CX P w) 4 F.f_order d_order ["turn"] (toSp K 1 (sp_order A))) (B_order : Binds K d_order ["turn"] []) {d_law_led_on : FuncData} (G_law_led_on : FnOk P w K mg base (L2.CX P w) 1 F.f_law_led_on d_law_led_on ["cycles", "size", "n"] (toSp K 3 (sp_law_led_on A))) (B_law_led_on : Binds K d_law_led_on ["cycles", "size", "n"] [])
    (pure : w_law K A (gamS 14 1) [] ⟨fun _ _ => False, fun d _ => d = .bl true, fun _ _ => False, fun _ _ => False, fun _ _ _ => False⟩) :
    FnOk P w K mg base (L2.CX P w) 6 F.f_law fd ["script"] (spLaw K) :=
  law_fn (k := 5) (j := 1) (wb := w_law K A) Dd sc_law rfl ⟨by decide, by decide⟩ (fun S N0 H0 cdv A0 outer s H E hr =>
    (ds_asg (ps_set (i := 1) sc_law.nd rfl (Or.inl rfl) (de_call rfl (takes_of rfl rfl rfl rfl) G_law_state (hr.mono (by decide)) rfl T.g__law_state T.k__law_state B_law_state (da_cons (de_var 0 (pv 0)) da_nil))))) (fun S N0 H0 cdv A0 outer s H E hr =>
    (dss_cons (ds_for (passes_of rfl) rfl (di_rng1 rfl T.b_range (da_cons de_int da_nil)) (dg_name (pg_name (i := 2) sc_law.nd rfl (Or.inl rfl)))
  (dss_cons (ds_asg (ps_set (i := 3) sc_law.nd rfl (Or.inl rfl) (de_add rfl de_int (de_call rfl (takes_of rfl rfl rfl rfl) G_law_draw (hr.mono (by decide)) rfl T.g__law_draw T.k__law_draw B_law_draw (da_cons (de_var 1 (pv 1)) (da_cons de_int da_nil))))))
  (dss_cons (ds_par (ps_par (i := 7) (j := 8) (by rfl) sc_law.nd rfl rfl (by decide) rfl rfl (da_cons (de_call rfl (takes_of rfl rfl rfl rfl) G_law_a_turn (hr.mono (by decide)) rfl T.g__law_a_turn T.k__law_a_turn B_law_a_turn (da_cons (de_var 1 (pv 1)) (da_cons (de_var 3 (pv 3)) da_nil))) (da_cons (de_call rfl (takes_of rfl rfl rfl rfl) G_law_a_turn (hr.mono (by decide)) rfl T.g__law_a_turn T.k__law_a_turn B_law_a_turn (da_cons (de_var 1 (pv 1)) (da_cons (de_var 3 (pv 3)) da_nil))) da_nil)) (by rfl)))
  (dss_cons (ds_asg (ps_set (i := 4) sc_law.nd rfl (Or.inl rfl) (de_call rfl (takes_of rfl rfl rfl rfl) G_law_cycles (hr.mono (by decide)) rfl T.g__law_cycles T.k__law_cycles B_law_cycles (da_cons (de_var 7 (pv 7)) da_nil))))
  (dss_cons (ds_par (ps_par (i := 9) (j := 10) (by rfl) sc_law.nd rfl rfl (by decide) rfl rfl (da_cons (de_call rfl (takes_of rfl rfl rfl rfl) G_law_comes_round (hr.mono (by decide)) rfl T.g__law_comes_round T.k__law_comes_round B_law_comes_round (da_cons (de_var 4 (pv 4)) da_nil)) (da_cons (de_cb sn_len (pe_callB call_len_seq (by rfl) T.b_len (by decide +kernel) (da_cons (de_lc (own := [("row", 13)]) rfl sc_law.nd (di_val rfl (de_var 4 (pv 4))) (blkOk_by (own := [("row", 13)]) (N := N_law) (sc := defScope s_law) (by decide +kernel)) own_name (fun _ _ _ _ _ => pg_name (i := 13) sc_law.nd rfl (Or.inl rfl)) (fun _ _ _ _ _ => (dts_one (dt_eq rfl hr.units (de_mod (de_cb sn_len (pe_callB call_len_seq (by rfl) T.b_len (by decide +kernel) (da_cons (de_var 13 (pv 13)) da_nil))) de_int) de_int))) (fun _ _ _ _ _ => (de_var 13 (pv 13)))) da_nil))) da_nil)) (by rfl)))
  (dss_cons (ds_if (dw_pt (dw_or (dt_not (dt_val (de_call rfl (takes_of rfl rfl rfl rfl) G_law_whole (hr.mono (by decide)) rfl T.g__law_whole T.k__law_whole B_law_whole (da_cons (de_call rfl (takes_of rfl rfl rfl rfl) G_order (hr.mono (by decide)) rfl T.g_order T.k_order B_order (da_cons (de_var 7 (pv 7)) da_nil)) (da_cons (de_var 9 (pv 9)) da_nil))))) (dw_or1 (dt_not (dt_val (de_call rfl (takes_of rfl rfl rfl rfl) G_law_whole (hr.mono (by decide)) rfl T.g__law_whole T.k__law_whole B_law_whole (da_cons (de_call rfl (takes_of rfl rfl rfl rfl) G_sign (hr.mono (by decide)) rfl T.g_sign T.k_sign B_sign (da_cons (de_var 7 (pv 7)) da_nil)) (da_cons (de_sub de_int (de_mul rfl de_int (de_mod (de_var 10 (pv 10)) de_int))) da_nil))))))))
  (dss_cons (ds_ret de_bl)
  dss_nil)
  dss_nil)
  (dss_cons (ds_par (ps_par (i := 11) (j := 12) (by rfl) sc_law.nd rfl rfl (by decide) rfl rfl (da_cons (de_call rfl (takes_of rfl rfl rfl rfl) G_law_number (hr.mono (by decide)) rfl T.g__law_number T.k__law_number B_law_number (da_cons (de_var 1 (pv 1)) (da_cons (de_var 9 (pv 9)) da_nil))) (da_cons (de_call rfl (takes_of rfl rfl rfl rfl) G_law_number (hr.mono (by decide)) rfl T.g__law_number T.k__law_number B_law_number (da_cons (de_var 1 (pv 1)) (da_cons (de_var 9 (pv 9)) da_nil))) da_nil)) (by rfl)))
  (dss_cons (ds_for (passes_of rfl) rfl (di_val rfl (de_tup (da_cons (de_var 11 (pv 11)) (da_cons (de_var 12 (pv 12)) (da_cons (de_add rfl (de_var 11 (pv 11)) (de_var 12 (pv 12))) (da_cons (de_sub de_int (de_var 11 (pv 11))) (da_cons de_int (da_cons de_int (da_cons (de_var 9 (pv 9)) (da_cons (de_add rfl (de_var 9 (pv 9)) de_int) da_nil)))))))))) (dg_name (pg_name (i := 5) sc_law.nd rfl (Or.inl rfl)))
  (dss_cons (ds_if (dt_not (dt_val (de_call rfl (takes_of rfl rfl rfl rfl) G_law_exact (hr.mono (by decide)) rfl T.g__law_exact T.k__law_exact B_law_exact (da_cons (de_call rfl (takes_of rfl rfl rfl rfl) G_times (hr.mono (by decide)) rfl T.g_times T.k_times B_times (da_cons (de_var 7 (pv 7)) (da_cons (de_var 5 (pv 5)) da_nil))) (da_cons (de_call rfl (takes_of rfl rfl rfl rfl) G_law_led_on (hr.mono (by decide)) rfl T.g__law_led_on T.k__law_led_on B_law_led_on (da_cons (de_var 4 (pv 4)) (da_cons (de_var 3 (pv 3)) (da_cons (de_var 5 (pv 5)) da_nil)))) da_nil)))))
  (dss_cons (ds_ret de_bl)
  dss_nil)
  dss_nil)
  dss_nil))
  (dss_cons (ds_if (dw_pt (dw_or (dt_ne rfl hr.units (de_call rfl (takes_of rfl rfl rfl rfl) G_into (hr.mono (by decide)) rfl T.g_into T.k_into B_into (da_cons (de_call rfl (takes_of rfl rfl rfl rfl) G_times (hr.mono (by decide)) rfl T.g_times T.k_times B_times (da_cons (de_var 7 (pv 7)) (da_cons (de_var 11 (pv 11)) da_nil))) (da_cons (de_call rfl (takes_of rfl rfl rfl rfl) G_times (hr.mono (by decide)) rfl T.g_times T.k_times B_times (da_cons (de_var 7 (pv 7)) (da_cons (de_var 12 (pv 12)) da_nil))) da_nil))) (de_call rfl (takes_of rfl rfl rfl rfl) G_times (hr.mono (by decide)) rfl T.g_times T.k_times B_times (da_cons (de_var 7 (pv 7)) (da_cons (de_add rfl (de_var 11 (pv 11)) (de_var 12 (pv 12))) da_nil)))) (dw_or1 (dt_ne rfl hr.units (de_call rfl (takes_of rfl rfl rfl rfl) G_times (hr.mono (by decide)) rfl T.g_times T.k_times B_times (da_cons (de_var 7 (pv 7)) (da_cons (de_neg de_int) da_nil))) (de_call rfl (takes_of rfl rfl rfl rfl) G_undone (hr.mono (by decide)) rfl T.g_undone T.k_undone B_undone (da_cons (de_var 7 (pv 7)) da_nil))))))
  (dss_cons (ds_ret de_bl)
  dss_nil)
  dss_nil)
  (dss_cons (ds_if (dw_pt (dw_or (dt_ne rfl hr.units (de_call rfl (takes_of rfl rfl rfl rfl) G_times (hr.mono (by decide)) rfl T.g_times T.k_times B_times (da_cons (de_var 7 (pv 7)) (da_cons (de_var 9 (pv 9)) da_nil))) (de_call rfl (takes_of rfl rfl rfl rfl) G_plain (hr.mono (by decide)) rfl T.g_plain T.k_plain B_plain (da_cons (de_var 3 (pv 3)) da_nil))) (dw_or1 (dt_ne rfl hr.units (de_call rfl (takes_of rfl rfl rfl rfl) G_sign (hr.mono (by decide)) rfl T.g_sign T.k_sign B_sign (da_cons (de_call rfl (takes_of rfl rfl rfl rfl) G_into (hr.mono (by decide)) rfl T.g_into T.k_into B_into (da_cons (de_var 7 (pv 7)) (da_cons (de_var 8 (pv 8)) da_nil))) da_nil)) (de_mul rfl (de_call rfl (takes_of rfl rfl rfl rfl) G_sign (hr.mono (by decide)) rfl T.g_sign T.k_sign B_sign (da_cons (de_var 7 (pv 7)) da_nil)) (de_call rfl (takes_of rfl rfl rfl rfl) G_sign (hr.mono (by decide)) rfl T.g_sign T.k_sign B_sign (da_cons (de_var 8 (pv 8)) da_nil)))))))
  (dss_cons (ds_ret de_bl)
  dss_nil)
  dss_nil)
  (dss_cons (ds_asg (ps_set (i := 6) sc_law.nd rfl (Or.inl rfl) (de_call rfl (takes_of rfl rfl rfl rfl) G_into (hr.mono (by decide)) rfl T.g_into T.k_into B_into (da_cons (de_call rfl (takes_of rfl rfl rfl rfl) G_into (hr.mono (by decide)) rfl T.g_into T.k_into B_into (da_cons (de_var 8 (pv 8)) (da_cons (de_var 7 (pv 7)) da_nil))) (da_cons (de_call rfl (takes_of rfl rfl rfl rfl) G_undone (hr.mono (by decide)) rfl T.g_undone T.k_undone B_undone (da_cons (de_var 8 (pv 8)) da_nil)) da_nil)))))
  (dss_cons (ds_if (dw_pt (dw_or (dt_ne rfl hr.units (de_call rfl (takes_of rfl rfl rfl rfl) G_order (hr.mono (by decide)) rfl T.g_order T.k_order B_order (da_cons (de_var 6 (pv 6)) da_nil)) (de_var 9 (pv 9))) (dw_or (dt_ne rfl hr.units (de_call rfl (takes_of rfl rfl rfl rfl) G_sign (hr.mono (by decide)) rfl T.g_sign T.k_sign B_sign (da_cons (de_var 6 (pv 6)) da_nil)) (de_call rfl (takes_of rfl rfl rfl rfl) G_sign (hr.mono (by decide)) rfl T.g_sign T.k_sign B_sign (da_cons (de_var 7 (pv 7)) da_nil))) (dw_or1 (dt_ne rfl hr.units (de_call rfl (takes_of rfl rfl rfl rfl) G_sign (hr.mono (by decide)) rfl T.g_sign T.k_sign B_sign (da_cons (de_call rfl (takes_of rfl rfl rfl rfl) G_undone (hr.mono (by decide)) rfl T.g_undone T.k_undone B_undone (da_cons (de_var 8 (pv 8)) da_nil)) da_nil)) (de_call rfl (takes_of rfl rfl rfl rfl) G_sign (hr.mono (by decide)) rfl T.g_sign T.k_sign B_sign (da_cons (de_var 8 (pv 8)) da_nil)))))))
  (dss_cons (ds_ret de_bl)
  dss_nil)
  dss_nil)
  dss_nil))))))))))))
  (dss_cons (ds_ret de_bl)
  dss_nil))) pure
end
end turncoats_k02_whole_cycles_tell_orders_t
end TC

set_option Elab.async false
set_option linter.all false
set_option maxRecDepth 100000
set_option maxHeartbeats 4000000
namespace TC
namespace turncoats_k02_whole_cycles_tell_orders_t
open PySem PySem.Spec PyProof.Rows L2
theorem all_mk {P : Program} {w : World} {K : PySem.W.Frag} {h : Heap} {mg : Str → Option Value} {fa : Addr} {C_CoatError : Addr}
    {C_NoSize : Addr}
    {C_NoTurn : Addr}
    {a_SIZES : Addr} {nz_SIZES : Nat} {sl_SIZES : Array (Option Value)} {t0_SIZES : Tok} {t1_SIZES : Tok} {t2_SIZES : Tok} {t3_SIZES : Tok}
    {f_is_number : Addr} {od_is_number an_is_number : Option Addr} {sl_is_number : Array (Option Value)} {oc_is_number kV_is_number dc_is_number pm_is_number cd_is_number ct_is_number : Value}
    {f_size_of : Addr} {od_size_of an_size_of : Option Addr} {sl_size_of : Array (Option Value)} {oc_size_of kV_size_of dc_size_of pm_size_of cd_size_of ct_size_of : Value}
    {f_need_size : Addr} {od_need_size an_need_size : Option Addr} {sl_need_size : Array (Option Value)} {oc_need_size kV_need_size dc_need_size pm_need_size cd_need_size ct_need_size : Value}
    {f_need_turn : Addr} {od_need_turn an_need_turn : Option Addr} {sl_need_turn : Array (Option Value)} {oc_need_turn kV_need_turn dc_need_turn pm_need_turn cd_need_turn ct_need_turn : Value}
    {f_put : Addr} {od_put an_put : Option Addr} {sl_put : Array (Option Value)} {oc_put kV_put dc_put pm_put cd_put ct_put : Value}
    {f_back : Addr} {od_back an_back : Option Addr} {sl_back : Array (Option Value)} {oc_back kV_back dc_back pm_back cd_back ct_back : Value}
    {f_plain : Addr} {od_plain an_plain : Option Addr} {sl_plain : Array (Option Value)} {oc_plain kV_plain dc_plain pm_plain cd_plain ct_plain : Value}
    {f_into : Addr} {od_into an_into : Option Addr} {sl_into : Array (Option Value)} {oc_into kV_into dc_into pm_into cd_into ct_into : Value}
    {f_undone : Addr} {od_undone an_undone : Option Addr} {sl_undone : Array (Option Value)} {oc_undone kV_undone dc_undone pm_undone cd_undone ct_undone : Value}
    {f_times : Addr} {od_times an_times : Option Addr} {sl_times : Array (Option Value)} {oc_times kV_times dc_times pm_times cd_times ct_times : Value}
    {f_order : Addr} {od_order an_order : Option Addr} {sl_order : Array (Option Value)} {oc_order kV_order dc_order pm_order cd_order ct_order : Value}
    {f_sign : Addr} {od_sign an_sign : Option Addr} {sl_sign : Array (Option Value)} {oc_sign kV_sign dc_sign pm_sign cd_sign ct_sign : Value}
    {f_law_state : Addr} {od_law_state an_law_state : Option Addr} {sl_law_state : Array (Option Value)} {oc_law_state kV_law_state dc_law_state pm_law_state cd_law_state ct_law_state : Value}
    {f_law_draw : Addr} {od_law_draw an_law_draw : Option Addr} {sl_law_draw : Array (Option Value)} {oc_law_draw kV_law_draw dc_law_draw pm_law_draw cd_law_draw ct_law_draw : Value}
    {f_law_pick : Addr} {od_law_pick an_law_pick : Option Addr} {sl_law_pick : Array (Option Value)} {oc_law_pick kV_law_pick dc_law_pick pm_law_pick cd_law_pick ct_law_pick : Value}
    {f_law_mixed : Addr} {od_law_mixed an_law_mixed : Option Addr} {sl_law_mixed : Array (Option Value)} {oc_law_mixed kV_law_mixed dc_law_mixed pm_law_mixed cd_law_mixed ct_law_mixed : Value}
    {f_law_a_turn : Addr} {od_law_a_turn an_law_a_turn : Option Addr} {sl_law_a_turn : Array (Option Value)} {oc_law_a_turn kV_law_a_turn dc_law_a_turn pm_law_a_turn cd_law_a_turn ct_law_a_turn : Value}
    {f_law_exact : Addr} {od_law_exact an_law_exact : Option Addr} {sl_law_exact : Array (Option Value)} {oc_law_exact kV_law_exact dc_law_exact pm_law_exact cd_law_exact ct_law_exact : Value}
    {f_law_whole : Addr} {od_law_whole an_law_whole : Option Addr} {sl_law_whole : Array (Option Value)} {oc_law_whole kV_law_whole dc_law_whole pm_law_whole cd_law_whole ct_law_whole : Value}
    {f_law_cycles : Addr} {od_law_cycles an_law_cycles : Option Addr} {sl_law_cycles : Array (Option Value)} {oc_law_cycles kV_law_cycles dc_law_cycles pm_law_cycles cd_law_cycles ct_law_cycles : Value}
    {f_law_led_on : Addr} {od_law_led_on an_law_led_on : Option Addr} {sl_law_led_on : Array (Option Value)} {oc_law_led_on kV_law_led_on dc_law_led_on pm_law_led_on cd_law_led_on ct_law_led_on : Value}
    {f_law_comes_round : Addr} {od_law_comes_round an_law_comes_round : Option Addr} {sl_law_comes_round : Array (Option Value)} {oc_law_comes_round kV_law_comes_round dc_law_comes_round pm_law_comes_round cd_law_comes_round ct_law_comes_round : Value}
    {f_law_number : Addr} {od_law_number an_law_number : Option Addr} {sl_law_number : Array (Option Value)} {oc_law_number kV_law_number dc_law_number pm_law_number cd_law_number ct_law_number : Value}
    {f_law : Addr} {od_law an_law : Option Addr} {sl_law : Array (Option Value)} {oc_law kV_law dc_law pm_law cd_law ct_law : Value}
    (X : K.In h) (G : h.Ns mainGlobals mg) (hfa : mg "law" = some (.ref fa))
    (aC_CoatError : PySem.W.nsIn K mainGlobals "CoatError" = some (some (.ref C_CoatError)))
    (aC_NoSize : PySem.W.nsIn K mainGlobals "NoSize" = some (some (.ref C_NoSize)))
    (aC_NoTurn : PySem.W.nsIn K mainGlobals "NoTurn" = some (some (.ref C_NoTurn)))
    (xC_NoSize : PySem.W.excIn K C_NoSize [.type "ValueError", .type "Exception", .type "BaseException", .type "object"] "ValueError.__new__" = true)
    (kC_NoSize : PySem.W.keepIn K (.ref C_NoSize) = true)
    (xC_NoTurn : PySem.W.excIn K C_NoTurn [.type "ValueError", .type "Exception", .type "BaseException", .type "object"] "ValueError.__new__" = true)
    (kC_NoTurn : PySem.W.keepIn K (.ref C_NoTurn) = true)
    (sC_CoatError : PySem.W.subIn K (.ref C_CoatError) (.type "BaseException") = some true)
    (tC_CoatError : PySem.W.typeIn K (.ref C_CoatError) = some (.type "type"))
    (iC_CoatError : PySem.W.isClsIn K C_CoatError = true)
    (sC_NoSize : PySem.W.subIn K (.ref C_NoSize) (.type "BaseException") = some true)
    (tC_NoSize : PySem.W.typeIn K (.ref C_NoSize) = some (.type "type"))
    (iC_NoSize : PySem.W.isClsIn K C_NoSize = true)
    (sC_NoTurn : PySem.W.subIn K (.ref C_NoTurn) (.type "BaseException") = some true)
    (tC_NoTurn : PySem.W.typeIn K (.ref C_NoTurn) = some (.type "type"))
    (iC_NoTurn : PySem.W.isClsIn K C_NoTurn = true)
    (aV_SIZES : PySem.W.nsIn K mainGlobals "SIZES" = some (some (.ref a_SIZES)))
    (lV_SIZES : K.lookup a_SIZES = some ⟨.type "tuple", none, .seq #[.int 2 t0_SIZES, .int 3 t1_SIZES, .int 4 t2_SIZES, .int 5 t3_SIZES] nz_SIZES, sl_SIZES⟩)
    (z_abs : PySem.W.nsIn K mainGlobals "abs" = some none)
    (z_all : PySem.W.nsIn K mainGlobals "all" = some none)
    (z_bool : PySem.W.nsIn K mainGlobals "bool" = some none)
    (z_int : PySem.W.nsIn K mainGlobals "int" = some none)
    (z_isinstance : PySem.W.nsIn K mainGlobals "isinstance" = some none)
    (z_len : PySem.W.nsIn K mainGlobals "len" = some none)
    (z_list : PySem.W.nsIn K mainGlobals "list" = some none)
    (z_range : PySem.W.nsIn K mainGlobals "range" = some none)
    (z_sorted : PySem.W.nsIn K mainGlobals "sorted" = some none)
    (z_tuple : PySem.W.nsIn K mainGlobals "tuple" = some none)
    (a_is_number : PySem.W.nsIn K mainGlobals "is_number" = some (some (.ref f_is_number)))
    (l_is_number : K.lookup f_is_number = some ⟨oc_is_number, od_is_number, .func (PySem.W.fnOf "is_number" "is_number" (defArgs s_is_number) (defBody s_is_number) (defScope s_is_number) .none kV_is_number dc_is_number pm_is_number an_is_number cd_is_number ct_is_number), sl_is_number⟩)
    (c_is_number : PySem.W.codeIn K cd_is_number "is_number" = true)
    (k_is_number : PySem.W.keepIn K (.ref f_is_number) = true)
    (a_size_of : PySem.W.nsIn K mainGlobals "size_of" = some (some (.ref f_size_of)))
    (l_size_of : K.lookup f_size_of = some ⟨oc_size_of, od_size_of, .func (PySem.W.fnOf "size_of" "size_of" (defArgs s_size_of) (defBody s_size_of) (defScope s_size_of) .none kV_size_of dc_size_of pm_size_of an_size_of cd_size_of ct_size_of), sl_size_of⟩)
    (c_size_of : PySem.W.codeIn K cd_size_of "size_of" = true)
    (k_size_of : PySem.W.keepIn K (.ref f_size_of) = true)
    (a_need_size : PySem.W.nsIn K mainGlobals "need_size" = some (some (.ref f_need_size)))
    (l_need_size : K.lookup f_need_size = some ⟨oc_need_size, od_need_size, .func (PySem.W.fnOf "need_size" "need_size" (defArgs s_need_size) (defBody s_need_size) (defScope s_need_size) .none kV_need_size dc_need_size pm_need_size an_need_size cd_need_size ct_need_size), sl_need_size⟩)
    (c_need_size : PySem.W.codeIn K cd_need_size "need_size" = true)
    (k_need_size : PySem.W.keepIn K (.ref f_need_size) = true)
    (a_need_turn : PySem.W.nsIn K mainGlobals "need_turn" = some (some (.ref f_need_turn)))
    (l_need_turn : K.lookup f_need_turn = some ⟨oc_need_turn, od_need_turn, .func (PySem.W.fnOf "need_turn" "need_turn" (defArgs s_need_turn) (defBody s_need_turn) (defScope s_need_turn) .none kV_need_turn dc_need_turn pm_need_turn an_need_turn cd_need_turn ct_need_turn), sl_need_turn⟩)
    (c_need_turn : PySem.W.codeIn K cd_need_turn "need_turn" = true)
    (k_need_turn : PySem.W.keepIn K (.ref f_need_turn) = true)
    (a_put : PySem.W.nsIn K mainGlobals "put" = some (some (.ref f_put)))
    (l_put : K.lookup f_put = some ⟨oc_put, od_put, .func (PySem.W.fnOf "put" "put" (defArgs s_put) (defBody s_put) (defScope s_put) .none kV_put dc_put pm_put an_put cd_put ct_put), sl_put⟩)
    (c_put : PySem.W.codeIn K cd_put "put" = true)
    (k_put : PySem.W.keepIn K (.ref f_put) = true)
    (a_back : PySem.W.nsIn K mainGlobals "back" = some (some (.ref f_back)))
    (l_back : K.lookup f_back = some ⟨oc_back, od_back, .func (PySem.W.fnOf "back" "back" (defArgs s_back) (defBody s_back) (defScope s_back) .none kV_back dc_back pm_back an_back cd_back ct_back), sl_back⟩)
    (c_back : PySem.W.codeIn K cd_back "back" = true)
    (k_back : PySem.W.keepIn K (.ref f_back) = true)
    (a_plain : PySem.W.nsIn K mainGlobals "plain" = some (some (.ref f_plain)))
    (l_plain : K.lookup f_plain = some ⟨oc_plain, od_plain, .func (PySem.W.fnOf "plain" "plain" (defArgs s_plain) (defBody s_plain) (defScope s_plain) .none kV_plain dc_plain pm_plain an_plain cd_plain ct_plain), sl_plain⟩)
    (c_plain : PySem.W.codeIn K cd_plain "plain" = true)
    (k_plain : PySem.W.keepIn K (.ref f_plain) = true)
    (a_into : PySem.W.nsIn K mainGlobals "into" = some (some (.ref f_into)))
    (l_into : K.lookup f_into = some ⟨oc_into, od_into, .func (PySem.W.fnOf "into" "into" (defArgs s_into) (defBody s_into) (defScope s_into) .none kV_into dc_into pm_into an_into cd_into ct_into), sl_into⟩)
    (c_into : PySem.W.codeIn K cd_into "into" = true)
    (k_into : PySem.W.keepIn K (.ref f_into) = true)
    (a_undone : PySem.W.nsIn K mainGlobals "undone" = some (some (.ref f_undone)))
    (l_undone : K.lookup f_undone = some ⟨oc_undone, od_undone, .func (PySem.W.fnOf "undone" "undone" (defArgs s_undone) (defBody s_undone) (defScope s_undone) .none kV_undone dc_undone pm_undone an_undone cd_undone ct_undone), sl_undone⟩)
    (c_undone : PySem.W.codeIn K cd_undone "undone" = true)
    (k_undone : PySem.W.keepIn K (.ref f_undone) = true)
    (a_times : PySem.W.nsIn K mainGlobals "times" = some (some (.ref f_times)))
    (l_times : K.lookup f_times = some ⟨oc_times, od_times, .func (PySem.W.fnOf "times" "times" (defArgs s_times) (defBody s_times) (defScope s_times) .none kV_times dc_times pm_times an_times cd_times ct_times), sl_times⟩)
    (c_times : PySem.W.codeIn K cd_times "times" = true)
    (k_times : PySem.W.keepIn K (.ref f_times) = true)
    (a_order : PySem.W.nsIn K mainGlobals "order" = some (some (.ref f_order)))
    (l_order : K.lookup f_order = some ⟨oc_order, od_order, .func (PySem.W.fnOf "order" "order" (defArgs s_order) (defBody s_order) (defScope s_order) .none kV_order dc_order pm_order an_order cd_order ct_order), sl_order⟩)
    (c_order : PySem.W.codeIn K cd_order "order" = true)
    (k_order : PySem.W.keepIn K (.ref f_order) = true)
    (a_sign : PySem.W.nsIn K mainGlobals "sign" = some (some (.ref f_sign)))
    (l_sign : K.lookup f_sign = some ⟨oc_sign, od_sign, .func (PySem.W.fnOf "sign" "sign" (defArgs s_sign) (defBody s_sign) (defScope s_sign) .none kV_sign dc_sign pm_sign an_sign cd_sign ct_sign), sl_sign⟩)
    (c_sign : PySem.W.codeIn K cd_sign "sign" = true)
    (k_sign : PySem.W.keepIn K (.ref f_sign) = true)
    (a_law_state : PySem.W.nsIn K mainGlobals "_law_state" = some (some (.ref f_law_state)))
    (l_law_state : K.lookup f_law_state = some ⟨oc_law_state, od_law_state, .func (PySem.W.fnOf "_law_state" "_law_state" (defArgs s_law_state) (defBody s_law_state) (defScope s_law_state) .none kV_law_state dc_law_state pm_law_state an_law_state cd_law_state ct_law_state), sl_law_state⟩)
    (c_law_state : PySem.W.codeIn K cd_law_state "_law_state" = true)
    (k_law_state : PySem.W.keepIn K (.ref f_law_state) = true)
    (a_law_draw : PySem.W.nsIn K mainGlobals "_law_draw" = some (some (.ref f_law_draw)))
    (l_law_draw : K.lookup f_law_draw = some ⟨oc_law_draw, od_law_draw, .func (PySem.W.fnOf "_law_draw" "_law_draw" (defArgs s_law_draw) (defBody s_law_draw) (defScope s_law_draw) .none kV_law_draw dc_law_draw pm_law_draw an_law_draw cd_law_draw ct_law_draw), sl_law_draw⟩)
    (c_law_draw : PySem.W.codeIn K cd_law_draw "_law_draw" = true)
    (k_law_draw : PySem.W.keepIn K (.ref f_law_draw) = true)
    (a_law_pick : PySem.W.nsIn K mainGlobals "_law_pick" = some (some (.ref f_law_pick)))
    (l_law_pick : K.lookup f_law_pick = some ⟨oc_law_pick, od_law_pick, .func (PySem.W.fnOf "_law_pick" "_law_pick" (defArgs s_law_pick) (defBody s_law_pick) (defScope s_law_pick) .none kV_law_pick dc_law_pick pm_law_pick an_law_pick cd_law_pick ct_law_pick), sl_law_pick⟩)
    (c_law_pick : PySem.W.codeIn K cd_law_pick "_law_pick" = true)
    (k_law_pick : PySem.W.keepIn K (.ref f_law_pick) = true)
    (a_law_mixed : PySem.W.nsIn K mainGlobals "_law_mixed" = some (some (.ref f_law_mixed)))
    (l_law_mixed : K.lookup f_law_mixed = some ⟨oc_law_mixed, od_law_mixed, .func (PySem.W.fnOf "_law_mixed" "_law_mixed" (defArgs s_law_mixed) (defBody s_law_mixed) (defScope s_law_mixed) .none kV_law_mixed dc_law_mixed pm_law_mixed an_law_mixed cd_law_mixed ct_law_mixed), sl_law_mixed⟩)
    (c_law_mixed : PySem.W.codeIn K cd_law_mixed "_law_mixed" = true)
    (k_law_mixed : PySem.W.keepIn K (.ref f_law_mixed) = true)
    (a_law_a_turn : PySem.W.nsIn K mainGlobals "_law_a_turn" = some (some (.ref f_law_a_turn)))
    (l_law_a_turn : K.lookup f_law_a_turn = some ⟨oc_law_a_turn, od_law_a_turn, .func (PySem.W.fnOf "_law_a_turn" "_law_a_turn" (defArgs s_law_a_turn) (defBody s_law_a_turn) (defScope s_law_a_turn) .none kV_law_a_turn dc_law_a_turn pm_law_a_turn an_law_a_turn cd_law_a_turn ct_law_a_turn), sl_law_a_turn⟩)
    (c_law_a_turn : PySem.W.codeIn K cd_law_a_turn "_law_a_turn" = true)
    (k_law_a_turn : PySem.W.keepIn K (.ref f_law_a_turn) = true)
    (a_law_exact : PySem.W.nsIn K mainGlobals "_law_exact" = some (some (.ref f_law_exact)))
    (l_law_exact : K.lookup f_law_exact = some ⟨oc_law_exact, od_law_exact, .func (PySem.W.fnOf "_law_exact" "_law_exact" (defArgs s_law_exact) (defBody s_law_exact) (defScope s_law_exact) .none kV_law_exact dc_law_exact pm_law_exact an_law_exact cd_law_exact ct_law_exact), sl_law_exact⟩)
    (c_law_exact : PySem.W.codeIn K cd_law_exact "_law_exact" = true)
    (k_law_exact : PySem.W.keepIn K (.ref f_law_exact) = true)
    (a_law_whole : PySem.W.nsIn K mainGlobals "_law_whole" = some (some (.ref f_law_whole)))
    (l_law_whole : K.lookup f_law_whole = some ⟨oc_law_whole, od_law_whole, .func (PySem.W.fnOf "_law_whole" "_law_whole" (defArgs s_law_whole) (defBody s_law_whole) (defScope s_law_whole) .none kV_law_whole dc_law_whole pm_law_whole an_law_whole cd_law_whole ct_law_whole), sl_law_whole⟩)
    (c_law_whole : PySem.W.codeIn K cd_law_whole "_law_whole" = true)
    (k_law_whole : PySem.W.keepIn K (.ref f_law_whole) = true)
    (a_law_cycles : PySem.W.nsIn K mainGlobals "_law_cycles" = some (some (.ref f_law_cycles)))
    (l_law_cycles : K.lookup f_law_cycles = some ⟨oc_law_cycles, od_law_cycles, .func (PySem.W.fnOf "_law_cycles" "_law_cycles" (defArgs s_law_cycles) (defBody s_law_cycles) (defScope s_law_cycles) .none kV_law_cycles dc_law_cycles pm_law_cycles an_law_cycles cd_law_cycles ct_law_cycles), sl_law_cycles⟩)
    (c_law_cycles : PySem.W.codeIn K cd_law_cycles "_law_cycles" = true)
    (k_law_cycles : PySem.W.keepIn K (.ref f_law_cycles) = true)
    (a_law_led_on : PySem.W.nsIn K mainGlobals "_law_led_on" = some (some (.ref f_law_led_on)))
    (l_law_led_on : K.lookup f_law_led_on = some ⟨oc_law_led_on, od_law_led_on, .func (PySem.W.fnOf "_law_led_on" "_law_led_on" (defArgs s_law_led_on) (defBody s_law_led_on) (defScope s_law_led_on) .none kV_law_led_on dc_law_led_on pm_law_led_on an_law_led_on cd_law_led_on ct_law_led_on), sl_law_led_on⟩)
    (c_law_led_on : PySem.W.codeIn K cd_law_led_on "_law_led_on" = true)
    (k_law_led_on : PySem.W.keepIn K (.ref f_law_led_on) = true)
    (a_law_comes_round : PySem.W.nsIn K mainGlobals "_law_comes_round" = some (some (.ref f_law_comes_round)))
    (l_law_comes_round : K.lookup f_law_comes_round = some ⟨oc_law_comes_round, od_law_comes_round, .func (PySem.W.fnOf "_law_comes_round" "_law_comes_round" (defArgs s_law_comes_round) (defBody s_law_comes_round) (defScope s_law_comes_round) .none kV_law_comes_round dc_law_comes_round pm_law_comes_round an_law_comes_round cd_law_comes_round ct_law_comes_round), sl_law_comes_round⟩)
    (c_law_comes_round : PySem.W.codeIn K cd_law_comes_round "_law_comes_round" = true)
    (k_law_comes_round : PySem.W.keepIn K (.ref f_law_comes_round) = true)
    (a_law_number : PySem.W.nsIn K mainGlobals "_law_number" = some (some (.ref f_law_number)))
    (l_law_number : K.lookup f_law_number = some ⟨oc_law_number, od_law_number, .func (PySem.W.fnOf "_law_number" "_law_number" (defArgs s_law_number) (defBody s_law_number) (defScope s_law_number) .none kV_law_number dc_law_number pm_law_number an_law_number cd_law_number ct_law_number), sl_law_number⟩)
    (c_law_number : PySem.W.codeIn K cd_law_number "_law_number" = true)
    (k_law_number : PySem.W.keepIn K (.ref f_law_number) = true)
    (a_law : PySem.W.nsIn K mainGlobals "law" = some (some (.ref f_law)))
    (l_law : K.lookup f_law = some ⟨oc_law, od_law, .func (PySem.W.fnOf "law" "law" (defArgs s_law) (defBody s_law) (defScope s_law) .none kV_law dc_law pm_law an_law cd_law ct_law), sl_law⟩)
    (c_law : PySem.W.codeIn K cd_law "law" = true)
    (k_law : PySem.W.keepIn K (.ref f_law) = true)
    : ∃ fd : FuncData, (∀ (s : Shared) (u : Value), BindsTo s fd ⟨[u], []⟩ [("script", u)]) ∧ ∀ base : Heap, K.In base → base.Ns mainGlobals mg → FnOk P w K mg base (L2.CX P w) 6 fa fd ["script"] (spLaw K) := by
  have e := hfa.symm.trans (PySem.W.mg_of X G a_law)
  cases e
  let A : Adr := ⟨C_CoatError, C_NoSize, C_NoTurn, 0⟩
  let F : Fns := ⟨f_is_number, f_size_of, f_need_size, f_need_turn, f_put, f_back, f_plain, f_into, f_undone, f_times, f_order, f_sign, f_law_state, f_law_draw, f_law_pick, f_law_mixed, f_law_a_turn, f_law_exact, f_law_whole, f_law_cycles, f_law_led_on, f_law_comes_round, f_law_number, fa, a_SIZES⟩
  have T : Txt K mg A F := { b_abs := PySem.W.mg_none_of X G z_abs, b_all := PySem.W.mg_none_of X G z_all, b_bool := PySem.W.mg_none_of X G z_bool, b_int := PySem.W.mg_none_of X G z_int, b_isinstance := PySem.W.mg_none_of X G z_isinstance, b_len := PySem.W.mg_none_of X G z_len, b_list := PySem.W.mg_none_of X G z_list, b_range := PySem.W.mg_none_of X G z_range, b_sorted := PySem.W.mg_none_of X G z_sorted, b_tuple := PySem.W.mg_none_of X G z_tuple, g_CoatError := PySem.W.mg_of X G aC_CoatError, g_NoSize := PySem.W.mg_of X G aC_NoSize, x_NoSize := xC_NoSize, k_NoSize := kC_NoSize, s_NoSize := sC_NoSize, t_NoSize := tC_NoSize, g_NoTurn := PySem.W.mg_of X G aC_NoTurn, x_NoTurn := xC_NoTurn, k_NoTurn := kC_NoTurn, s_NoTurn := sC_NoTurn, t_NoTurn := tC_NoTurn, g_SIZES := PySem.W.mg_of X G aV_SIZES, d_SIZES := fun S α G => Is.tup (xs := [.int 2, .int 3, .int 4, .int 5]) (.inr ⟨_, _, _, lV_SIZES, rfl, rfl, rfl, by show 4 ≤ sizeLine; decide, (.cons ⟨_, rfl⟩ (.cons ⟨_, rfl⟩ (.cons ⟨_, rfl⟩ (.cons ⟨_, rfl⟩ .nil))))⟩) (.cons (.int _) (.cons (.int _) (.cons (.int _) (.cons (.int _) .nil)))), g_is_number := PySem.W.mg_of X G a_is_number, k_is_number := k_is_number, g_size_of := PySem.W.mg_of X G a_size_of, k_size_of := k_size_of, g_need_size := PySem.W.mg_of X G a_need_size, k_need_size := k_need_size, g_need_turn := PySem.W.mg_of X G a_need_turn, k_need_turn := k_need_turn, g_put := PySem.W.mg_of X G a_put, k_put := k_put, g_back := PySem.W.mg_of X G a_back, k_back := k_back, g_plain := PySem.W.mg_of X G a_plain, k_plain := k_plain, g_into := PySem.W.mg_of X G a_into, k_into := k_into, g_undone := PySem.W.mg_of X G a_undone, k_undone := k_undone, g_times := PySem.W.mg_of X G a_times, k_times := k_times, g_order := PySem.W.mg_of X G a_order, k_order := k_order, g_sign := PySem.W.mg_of X G a_sign, k_sign := k_sign, g__law_state := PySem.W.mg_of X G a_law_state, k__law_state := k_law_state, g__law_draw := PySem.W.mg_of X G a_law_draw, k__law_draw := k_law_draw, g__law_pick := PySem.W.mg_of X G a_law_pick, k__law_pick := k_law_pick, g__law_mixed := PySem.W.mg_of X G a_law_mixed, k__law_mixed := k_law_mixed, g__law_a_turn := PySem.W.mg_of X G a_law_a_turn, k__law_a_turn := k_law_a_turn, g__law_exact := PySem.W.mg_of X G a_law_exact, k__law_exact := k_law_exact, g__law_whole := PySem.W.mg_of X G a_law_whole, k__law_whole := k_law_whole, g__law_cycles := PySem.W.mg_of X G a_law_cycles, k__law_cycles := k_law_cycles, g__law_led_on := PySem.W.mg_of X G a_law_led_on, k__law_led_on := k_law_led_on, g__law_comes_round := PySem.W.mg_of X G a_law_comes_round, k__law_comes_round := k_law_comes_round, g__law_number := PySem.W.mg_of X G a_law_number, k__law_number := k_law_number, g_law := PySem.W.mg_of X G a_law, k_law := k_law }
  have F_law_state := fun_mk (st := s_law_state) l_law_state c_law_state k_law_state
  have B_law_state := F_law_state.binds (ps := ["script"]) fun _ _ _ _ _ _ us hl => match us, hl with | [_], _ => rfl
  have G_law_state := fun (base : Heap) => ok_law_state (P := P) (w := w) (base := base) T F_law_state  (pure_law_state K A)
  have F_law_cycles := fun_mk (st := s_law_cycles) l_law_cycles c_law_cycles k_law_cycles
  have B_law_cycles := F_law_cycles.binds (ps := ["turn"]) fun _ _ _ _ _ _ us hl => match us, hl with | [_], _ => rfl
  have G_law_cycles := fun (base : Heap) => ok_law_cycles (P := P) (w := w) (base := base) T F_law_cycles  (pure_law_cycles K A)
  have F_put := fun_mk (st := s_put) l_put c_put k_put
  have B_put := F_put.binds (ps := ["one", "other"]) fun _ _ _ _ _ _ us hl => match us, hl with | [_, _], _ => rfl
  have G_put := fun (base : Heap) => ok_put (P := P) (w := w) (base := base) T F_put  (pure_put K A)
  have F_is_number := fun_mk (st := s_is_number) l_is_number c_is_number k_is_number
  have B_is_number := F_is_number.binds (ps := ["thing"]) fun _ _ _ _ _ _ us hl => match us, hl with | [_], _ => rfl
  have G_is_number := fun (base : Heap) => ok_is_number (P := P) (w := w) (base := base) T F_is_number  (pure_is_number K A)
  have F_size_of := fun_mk (st := s_size_of) l_size_of c_size_of k_size_of
  have B_size_of := F_size_of.binds (ps := ["thing"]) fun _ _ _ _ _ _ us hl => match us, hl with | [_], _ => rfl
  have G_size_of := fun (base : Heap) => ok_size_of (P := P) (w := w) (base := base) T F_size_of (G_is_number base) B_is_number (pure_size_of K A)
  have F_need_turn := fun_mk (st := s_need_turn) l_need_turn c_need_turn k_need_turn
  have B_need_turn := F_need_turn.binds (ps := ["turn"]) fun _ _ _ _ _ _ us hl => match us, hl with | [_], _ => rfl
  have G_need_turn := fun (base : Heap) => ok_need_turn (P := P) (w := w) (base := base) T F_need_turn (G_size_of base) B_size_of (pure_need_turn K A)
  have F_into := fun_mk (st := s_into) l_into c_into k_into
  have B_into := F_into.binds (ps := ["one", "other"]) fun _ _ _ _ _ _ us hl => match us, hl with | [_, _], _ => rfl
  have G_into := fun (base : Heap) => ok_into (P := P) (w := w) (base := base) T F_into (G_put base) B_put (G_need_turn base) B_need_turn (pure_into K A)
  have F_law_draw := fun_mk (st := s_law_draw) l_law_draw c_law_draw k_law_draw
  have B_law_draw := F_law_draw.binds (ps := ["state", "many"]) fun _ _ _ _ _ _ us hl => match us, hl with | [_, _], _ => rfl
  have G_law_draw := fun (base : Heap) => ok_law_draw (P := P) (w := w) (base := base) T F_law_draw
  have F_law_mixed := fun_mk (st := s_law_mixed) l_law_mixed c_law_mixed k_law_mixed
  have B_law_mixed := F_law_mixed.binds (ps := ["state", "some"]) fun _ _ _ _ _ _ us hl => match us, hl with | [_, _], _ => rfl
  have G_law_mixed := fun (base : Heap) => ok_law_mixed (P := P) (w := w) (base := base) T F_law_mixed (G_law_draw base) B_law_draw (pure_law_mixed K A)
  have F_law_a_turn := fun_mk (st := s_law_a_turn) l_law_a_turn c_law_a_turn k_law_a_turn
  have B_law_a_turn := F_law_a_turn.binds (ps := ["state", "size"]) fun _ _ _ _ _ _ us hl => match us, hl with | [_, _], _ => rfl
  have G_law_a_turn := fun (base : Heap) => ok_law_a_turn (P := P) (w := w) (base := base) T F_law_a_turn (G_law_draw base) B_law_draw (G_law_mixed base) B_law_mixed (pure_law_a_turn K A)
  have F_law_comes_round := fun_mk (st := s_law_comes_round) l_law_comes_round c_law_comes_round k_law_comes_round
  have B_law_comes_round := F_law_comes_round.binds (ps := ["cycles"]) fun _ _ _ _ _ _ us hl => match us, hl with | [_], _ => rfl
  have G_law_comes_round := fun (base : Heap) => ok_law_comes_round (P := P) (w := w) (base := base) T F_law_comes_round  (pure_law_comes_round K A)
  have F_law_pick := fun_mk (st := s_law_pick) l_law_pick c_law_pick k_law_pick
  have B_law_pick := F_law_pick.binds (ps := ["state", "some"]) fun _ _ _ _ _ _ us hl => match us, hl with | [_, _], _ => rfl
  have G_law_pick := fun (base : Heap) => ok_law_pick (P := P) (w := w) (base := base) T F_law_pick (G_law_draw base) B_law_draw (pure_law_pick K A)
  have F_law_number := fun_mk (st := s_law_number) l_law_number c_law_number k_law_number
  have B_law_number := F_law_number.binds (ps := ["state", "round_of_all"]) fun _ _ _ _ _ _ us hl => match us, hl with | [_, _], _ => rfl
  have G_law_number := fun (base : Heap) => ok_law_number (P := P) (w := w) (base := base) T F_law_number (G_law_pick base) B_law_pick (G_law_draw base) B_law_draw (pure_law_number K A)
  have F_back := fun_mk (st := s_back) l_back c_back k_back
  have B_back := F_back.binds (ps := ["turn"]) fun _ _ _ _ _ _ us hl => match us, hl with | [_], _ => rfl
  have G_back := fun (base : Heap) => ok_back (P := P) (w := w) (base := base) T F_back  (pure_back K A)
  have F_undone := fun_mk (st := s_undone) l_undone c_undone k_undone
  have B_undone := F_undone.binds (ps := ["turn"]) fun _ _ _ _ _ _ us hl => match us, hl with | [_], _ => rfl
  have G_undone := fun (base : Heap) => ok_undone (P := P) (w := w) (base := base) T F_undone (G_need_turn base) B_need_turn (G_back base) B_back (pure_undone K A)
  have F_law_whole := fun_mk (st := s_law_whole) l_law_whole c_law_whole k_law_whole
  have B_law_whole := F_law_whole.binds (ps := ["found", "due"]) fun _ _ _ _ _ _ us hl => match us, hl with | [_, _], _ => rfl
  have G_law_whole := fun (base : Heap) => ok_law_whole (P := P) (w := w) (base := base) T F_law_whole  (pure_law_whole K A)
  have F_law_exact := fun_mk (st := s_law_exact) l_law_exact c_law_exact k_law_exact
  have B_law_exact := F_law_exact.binds (ps := ["found", "due"]) fun _ _ _ _ _ _ us hl => match us, hl with | [_, _], _ => rfl
  have G_law_exact := fun (base : Heap) => ok_law_exact (P := P) (w := w) (base := base) T F_law_exact  (pure_law_exact K A)
  have F_need_size := fun_mk (st := s_need_size) l_need_size c_need_size k_need_size
  have B_need_size := F_need_size.binds (ps := ["size"]) fun _ _ _ _ _ _ us hl => match us, hl with | [_], _ => rfl
  have G_need_size := fun (base : Heap) => ok_need_size (P := P) (w := w) (base := base) T F_need_size (G_is_number base) B_is_number (pure_need_size K A)
  have F_plain := fun_mk (st := s_plain) l_plain c_plain k_plain
  have B_plain := F_plain.binds (ps := ["size"]) fun _ _ _ _ _ _ us hl => match us, hl with | [_], _ => rfl
  have G_plain := fun (base : Heap) => ok_plain (P := P) (w := w) (base := base) T F_plain (G_need_size base) B_need_size (pure_plain K A)
  have F_order := fun_mk (st := s_order) l_order c_order k_order
  have B_order := F_order.binds (ps := ["turn"]) fun _ _ _ _ _ _ us hl => match us, hl with | [_], _ => rfl
  have G_order := fun (base : Heap) => ok_order (P := P) (w := w) (base := base) T F_order (G_plain base) B_plain (G_need_turn base) B_need_turn (G_put base) B_put (pure_order K A)
  have F_times := fun_mk (st := s_times) l_times c_times k_times
  have B_times := F_times.binds (ps := ["turn", "n"]) fun _ _ _ _ _ _ us hl => match us, hl with | [_, _], _ => rfl
  have G_times := fun (base : Heap) => ok_times (P := P) (w := w) (base := base) T F_times (G_plain base) B_plain (G_order base) B_order (G_put base) B_put (pure_times K A)
  have F_sign := fun_mk (st := s_sign) l_sign c_sign k_sign
  have B_sign := F_sign.binds (ps := ["turn"]) fun _ _ _ _ _ _ us hl => match us, hl with | [_], _ => rfl
  have G_sign := fun (base : Heap) => ok_sign (P := P) (w := w) (base := base) T F_sign (G_need_turn base) B_need_turn (pure_sign K A)
  have F_law_led_on := fun_mk (st := s_law_led_on) l_law_led_on c_law_led_on k_law_led_on
  have B_law_led_on := F_law_led_on.binds (ps := ["cycles", "size", "n"]) fun _ _ _ _ _ _ us hl => match us, hl with | [_, _, _], _ => rfl
  have G_law_led_on := fun (base : Heap) => ok_law_led_on (P := P) (w := w) (base := base) T F_law_led_on  (pure_law_led_on K A)
  have F_law := fun_mk (st := s_law) l_law c_law k_law
  refine ⟨_, fun s v => .of_eq rfl, fun base _ _ => ok_law T F_law (G_law_state base) B_law_state (G_law_cycles base) B_law_cycles (G_into base) B_into (G_law_draw base) B_law_draw (G_law_a_turn base) B_law_a_turn (G_law_comes_round base) B_law_comes_round (G_law_number base) B_law_number (G_undone base) B_undone (G_law_whole base) B_law_whole (G_law_exact base) B_law_exact (G_times base) B_times (G_plain base) B_plain (G_sign base) B_sign (G_order base) B_order (G_law_led_on base) B_law_led_on (pure_law K A)⟩
end turncoats_k02_whole_cycles_tell_orders_t
end TC
open PySem PySem.W PyProof.Rows in
set_option maxRecDepth 100000 in
set_option maxHeartbeats 0 in
theorem PySem.Challenge.cw_turncoats_k02_whole_cycles_tell_orders_t_holds : PySem.Challenge.rw_turncoats_k02_whole_cycles_tell_orders_t.Holds := by
  w_on; o_law; k_head; (case hw => w_witness2)
  k_fill
  refine L2.walk_of (l := PySem.Challenge.rw_turncoats_k02_whole_cycles_tell_orders_t) (n := 63) (k := 6) (x := "script") (CX := fun w => L2.CX (PySem.Challenge.rw_turncoats_k02_whole_cycles_tell_orders_t).prog w) (sp := fun w => TC.spLaw _) rfl (by decide) rfl ⟨rfl, by decide, by decide⟩ (fun w h Y => PySem.W.kIn_of Y) ?F (fun _ _ a ns hl _ hS => ⟨a, ns, rfl, hS, hl, fun _ => rfl⟩) (fun _ _ _ _ _ z => by
    obtain ⟨_, _, _, _, _, _, _, _, _, _, _, _, e⟩ := z
    exact e)
  case F =>
    intro w mg fa h KX G hmg
    refine' TC.turncoats_k02_whole_cycles_tell_orders_t.all_mk KX G hmg ?aC_CoatError ?aC_NoSize ?aC_NoTurn ?xC_NoSize ?kC_NoSize ?xC_NoTurn ?kC_NoTurn ?sC_CoatError ?tC_CoatError ?iC_CoatError ?sC_NoSize ?tC_NoSize ?iC_NoSize ?sC_NoTurn ?tC_NoTurn ?iC_NoTurn ?aV_SIZES ?lV_SIZES ?z_abs ?z_all ?z_bool ?z_int ?z_isinstance ?z_len ?z_list ?z_range ?z_sorted ?z_tuple ?a_is_number ?l_is_number ?c_is_number ?k_is_number ?a_size_of ?l_size_of ?c_size_of ?k_size_of ?a_need_size ?l_need_size ?c_need_size ?k_need_size ?a_need_turn ?l_need_turn ?c_need_turn ?k_need_turn ?a_put ?l_put ?c_put ?k_put ?a_back ?l_back ?c_back ?k_back ?a_plain ?l_plain ?c_plain ?k_plain ?a_into ?l_into ?c_into ?k_into ?a_undone ?l_undone ?c_undone ?k_undone ?a_times ?l_times ?c_times ?k_times ?a_order ?l_order ?c_order ?k_order ?a_sign ?l_sign ?c_sign ?k_sign ?a_law_state ?l_law_state ?c_law_state ?k_law_state ?a_law_draw ?l_law_draw ?c_law_draw ?k_law_draw ?a_law_pick ?l_law_pick ?c_law_pick ?k_law_pick ?a_law_mixed ?l_law_mixed ?c_law_mixed ?k_law_mixed ?a_law_a_turn ?l_law_a_turn ?c_law_a_turn ?k_law_a_turn ?a_law_exact ?l_law_exact ?c_law_exact ?k_law_exact ?a_law_whole ?l_law_whole ?c_law_whole ?k_law_whole ?a_law_cycles ?l_law_cycles ?c_law_cycles ?k_law_cycles ?a_law_led_on ?l_law_led_on ?c_law_led_on ?k_law_led_on ?a_law_comes_round ?l_law_comes_round ?c_law_comes_round ?k_law_comes_round ?a_law_number ?l_law_number ?c_law_number ?k_law_number ?a_law ?l_law ?c_law ?k_law
    (case aC_CoatError => first | k_is | rfl)
    (case aC_NoSize => first | k_is | rfl)
    (case aC_NoTurn => first | k_is | rfl)
    (case xC_NoSize => k_exc)
    (case kC_NoSize => first | k_is | rfl)
    (case xC_NoTurn => k_exc)
    (case kC_NoTurn => first | k_is | rfl)
    (case sC_CoatError => first | k_is | rfl)
    (case tC_CoatError => first | k_is | rfl)
    (case iC_CoatError => first | k_is | rfl)
    (case sC_NoSize => first | k_is | rfl)
    (case tC_NoSize => first | k_is | rfl)
    (case iC_NoSize => first | k_is | rfl)
    (case sC_NoTurn => first | k_is | rfl)
    (case tC_NoTurn => first | k_is | rfl)
    (case iC_NoTurn => first | k_is | rfl)
    (case aV_SIZES => first | k_is | rfl)
    (case lV_SIZES => first | k_is | rfl)
    (case z_abs => first | k_is | rfl)
    (case z_all => first | k_is | rfl)
    (case z_bool => first | k_is | rfl)
    (case z_int => first | k_is | rfl)
    (case z_isinstance => first | k_is | rfl)
    (case z_len => first | k_is | rfl)
    (case z_list => first | k_is | rfl)
    (case z_range => first | k_is | rfl)
    (case z_sorted => first | k_is | rfl)
    (case z_tuple => first | k_is | rfl)
    (case a_is_number => first | k_is | rfl)
    (case l_is_number => first | k_is | rfl)
    (case c_is_number => first | k_is | rfl)
    (case k_is_number => first | k_is | rfl)
    (case a_size_of => first | k_is | rfl)
    (case l_size_of => first | k_is | rfl)
    (case c_size_of => first | k_is | rfl)
    (case k_size_of => first | k_is | rfl)
    (case a_need_size => first | k_is | rfl)
    (case l_need_size => first | k_is | rfl)
    (case c_need_size => first | k_is | rfl)
    (case k_need_size => first | k_is | rfl)
    (case a_need_turn => first | k_is | rfl)
    (case l_need_turn => first | k_is | rfl)
    (case c_need_turn => first | k_is | rfl)
    (case k_need_turn => first | k_is | rfl)
    (case a_put => first | k_is | rfl)
    (case l_put => first | k_is | rfl)
    (case c_put => first | k_is | rfl)
    (case k_put => first | k_is | rfl)
    (case a_back => first | k_is | rfl)
    (case l_back => first | k_is | rfl)
    (case c_back => first | k_is | rfl)
    (case k_back => first | k_is | rfl)
    (case a_plain => first | k_is | rfl)
    (case l_plain => first | k_is | rfl)
    (case c_plain => first | k_is | rfl)
    (case k_plain => first | k_is | rfl)
    (case a_into => first | k_is | rfl)
    (case l_into => first | k_is | rfl)
    (case c_into => first | k_is | rfl)
    (case k_into => first | k_is | rfl)
    (case a_undone => first | k_is | rfl)
    (case l_undone => first | k_is | rfl)
    (case c_undone => first | k_is | rfl)
    (case k_undone => first | k_is | rfl)
    (case a_times => first | k_is | rfl)
    (case l_times => first | k_is | rfl)
    (case c_times => first | k_is | rfl)
    (case k_times => first | k_is | rfl)
    (case a_order => first | k_is | rfl)
    (case l_order => first | k_is | rfl)
    (case c_order => first | k_is | rfl)
    (case k_order => first | k_is | rfl)
    (case a_sign => first | k_is | rfl)
    (case l_sign => first | k_is | rfl)
    (case c_sign => first | k_is | rfl)
    (case k_sign => first | k_is | rfl)
    (case a_law_state => first | k_is | rfl)
    (case l_law_state => first | k_is | rfl)
    (case c_law_state => first | k_is | rfl)
    (case k_law_state => first | k_is | rfl)
    (case a_law_draw => first | k_is | rfl)
    (case l_law_draw => first | k_is | rfl)
    (case c_law_draw => first | k_is | rfl)
    (case k_law_draw => first | k_is | rfl)
    (case a_law_pick => first | k_is | rfl)
    (case l_law_pick => first | k_is | rfl)
    (case c_law_pick => first | k_is | rfl)
    (case k_law_pick => first | k_is | rfl)
    (case a_law_mixed => first | k_is | rfl)
    (case l_law_mixed => first | k_is | rfl)
    (case c_law_mixed => first | k_is | rfl)
    (case k_law_mixed => first | k_is | rfl)
    (case a_law_a_turn => first | k_is | rfl)
    (case l_law_a_turn => first | k_is | rfl)
    (case c_law_a_turn => first | k_is | rfl)
    (case k_law_a_turn => first | k_is | rfl)
    (case a_law_exact => first | k_is | rfl)
    (case l_law_exact => first | k_is | rfl)
    (case c_law_exact => first | k_is | rfl)
    (case k_law_exact => first | k_is | rfl)
    (case a_law_whole => first | k_is | rfl)
    (case l_law_whole => first | k_is | rfl)
    (case c_law_whole => first | k_is | rfl)
    (case k_law_whole => first | k_is | rfl)
    (case a_law_cycles => first | k_is | rfl)
    (case l_law_cycles => first | k_is | rfl)
    (case c_law_cycles => first | k_is | rfl)
    (case k_law_cycles => first | k_is | rfl)
    (case a_law_led_on => first | k_is | rfl)
    (case l_law_led_on => first | k_is | rfl)
    (case c_law_led_on => first | k_is | rfl)
    (case k_law_led_on => first | k_is | rfl)
    (case a_law_comes_round => first | k_is | rfl)
    (case l_law_comes_round => first | k_is | rfl)
    (case c_law_comes_round => first | k_is | rfl)
    (case k_law_comes_round => first | k_is | rfl)
    (case a_law_number => first | k_is | rfl)
    (case l_law_number => first | k_is | rfl)
    (case c_law_number => first | k_is | rfl)
    (case k_law_number => first | k_is | rfl)
    (case a_law => first | k_is | rfl)
    (case l_law => first | k_is | rfl)
    (case c_law => first | k_is | rfl)
    (case k_law => first | k_is | rfl)
#print axioms PySem.Challenge.cw_turncoats_k02_whole_cycles_tell_orders_t_holds

