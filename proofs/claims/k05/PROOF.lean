import PyProof.Rows.All
import Wide.All
import OpenK.AllK
import Wide.FinOn
import HandS.ForMost
import HandS.ForExc
import HandS.Evl
import HandS.Flow
import HandS.SetFor
import HandS.Strs
import HandS.TupAny
import HandS.Style
import HandS.Conv
import HandS.IsInst
import HandS.ExcIs
import HandS.Wide
import KE.KIndexOf
import HandS.Dict
import HandS.DictTup
import HandS.TupMul
import HandS.SetKeys
import HandS.Iter
import KE.KDictWalk
import KE.KDictCopyH
import HandS.Deep
import KE.KDictDisplayH
import HandS.SortRule
import HandS.SortOrd
import HandS.More
import KE.KDictPairs
import KE.GoesEnum
import HandS.DictComp
import KE.LtData
import HandS.Zip
import KE.KDictSum
import KE.LtSeq
import HandS.Sort
import HandS.DictEq
import HandS.RepeatKit
import HandS.TupLen
import PySem.Challenge.RW_turncoats_k05_whole_lots_part_all_turns
set_option Elab.async false
set_option linter.all false
set_option maxRecDepth 100000
set_option maxHeartbeats 2000000
/-! Rules of our own, where the hand layer has none. -/
namespace TC
open PySem PySem.Spec PyProof.Rows L2
section
variable {X : Cx}
/-- t.index(n), t a tuple of ints that holds n -/
def rTIdx (K : PySem.W.Frag) : V → List V → Hp → VK → Prop := fun x xs H Q => ∃ (p : Addr) (ns : List Int) (k : Int),
  x = .ref p ∧ xs = [.int k] ∧ SqT K H p (ns.map V.int) ∧ k ∈ ns ∧ Q (.int (ns.idxOf k : Nat)) H
theorem mt_tidx : MtR X "tuple.index" (rTIdx X.K) := by
  intro pins s σ H x xs v us Q I rx rs h
  obtain ⟨p, ns, k, rfl, rfl, hq, hk, q⟩ := h
  cases rx
  obtain ⟨u, rfl, ru⟩ := rs.one
  obtain ⟨t, rfl⟩ := ru
  obtain ⟨its, r, pl, hz⟩ := I.tuple hq
  have hi := ints_of_vals r
  exact PySem.SeqAt.tuple_index_ints pl hi hk ⟨.int (ns.idxOf k : Nat), H, I.tok _, ⟨_, rfl⟩, q⟩
/-- xs.count(y), flat items -/
def rCntV (K : PySem.W.Frag) : V → List V → Hp → VK → Prop := fun x xs H Q => ∃ (p : Addr) (ys : List V) (y : V),
  x = .ref p ∧ xs = [y] ∧ SqL K H p ys ∧ flatV y = true ∧ ys.all flatV = true ∧ Q (.int (ys.countP fun z => eqV z y : Nat)) H
theorem countP_eqU {x : V} : ∀ {xs : List V} {us : List Value}, Vals xs us → xs.all flatV = true → us.countP (eqU x) = xs.countP fun z => eqV z x
  | _, _, .nil, _ => rfl
  | y :: xs, u :: us, .cons r t, f => by
    simp only [List.all_cons, Bool.and_eq_true] at f
    simp only [List.countP_cons, eqU_of r f.1, countP_eqU t f.2]
theorem mt_cntV : MtR X "list.count" (rCntV X.K) := by
  intro pins s σ H x xs v us Q I rx rxs h
  obtain ⟨p, ys, y, rfl, rfl, hs, fy, fys, q⟩ := h
  cases rx
  obtain ⟨u, rfl, ru⟩ := rxs.one
  obtain ⟨its, rv, ⟨⟨cls, dd, dat, sl⟩, n, ho, hc, hdn, hd⟩, hlen⟩ := I.list hs
  simp only at hc hd
  subst hc hd
  refine call_meets PySem.F.slot_list_count ⟨_, ho, rfl⟩ PySem.F.entry_list_count (PySem.F.args_list_count_2 _ _)
    (SeqAt.list_countAt p its.toArray n dd sl u (eqU y)) ⟨ho, fun z hz => mem_eqAt ru fy rv fys z (by simpa using hz), ?_⟩
  have ec : its.toArray.toList.countP (eqU y) = ys.countP fun z => eqV z y := countP_eqU rv fys
  rw [ec]
  exact ⟨.int _, H, I.tok _, ⟨s.toks, rfl⟩, q⟩
end
/-! ### t[::-1] of a tuple -/
section
variable {prog : Program} {w : World} {A : Around} {E : Value → Shared → Prop} {s : Shared}
theorem rev_places (n : Nat) : Builtin.Slice.slicePlaces ((n : Int) - 1) (-1) (-1) = n := by
  unfold Builtin.Slice.slicePlaces
  have h1 : ¬ ((-1 : Int) > 0) := by omega
  rw [if_neg h1]
  by_cases h : n = 0
  · subst h; decide
  · have h2 : ((n : Int) - 1 > -1) := by omega
    rw [if_pos h2]
    have : ((n : Int) - 1 - -1 - 1) / (- -1) + 1 = (n : Int) := by
      rw [Int.neg_neg, Int.ediv_one]; omega
    rw [this]
    omega
theorem rev_applied {sl : Addr} {vl vu vs : Value} {n : Nat} {Q : Int × Int × Nat → Shared → Prop} (hs : s.heap.IsSliceOf sl vl vu vs) (pl : IsPart vl none) (pu : IsPart vu none) (ps : IsPart vs (some (-1)))
    (h : Q ((n : Int) - 1, -1, n) s) : wpAny (model prog w) A (Builtin.Slice.sliceApplied (.ref sl) (pure (n : Int))) Q E s := by
  obtain ⟨os, hos, hcs, hds⟩ := id hs
  unfold Builtin.Slice.sliceApplied Builtin.Slice.sliceFields
  refine wpAny_bind (wpAny_bind (wpAny_field hos hds (x := vl) rfl (wpAny_bind (wpAny_field hos hds (x := vu) rfl (wpAny_bind (wpAny_field hos hds (x := vs) rfl (wpAny_pure ?_)))))))
  refine wpAny_bind (HT.slicePart_ ps ?_)
  show wpAny _ _ (if ((-1 : Int) == 0) = true then _ else _) _ _ s
  rw [if_neg (by decide)]
  refine wpAny_bind (HT.slicePart_ pl (wpAny_bind (HT.slicePart_ pu (wpAny_bind (wpAny_pure ?_)))))
  show wpAny _ _ (pure ((n : Int) - 1, (-1 : Int), Builtin.Slice.slicePlaces ((n : Int) - 1) (-1) (-1))) _ _ s
  rw [rev_places]
  exact wpAny_pure h
theorem fm_map {α β : Type} {f : α → Option β} {g : α → β} : ∀ {l : List α}, (∀ k ∈ l, f k = some (g k)) → l.filterMap f = l.map g
  | [], _ => rfl
  | a :: l, h => by
    rw [List.filterMap_cons, h a List.mem_cons_self, List.map_cons, fm_map fun k hk => h k (List.mem_cons_of_mem _ hk)]
theorem rev_range (xs : List Value) : ((List.range xs.length).filterMap fun (k : Nat) => xs.toArray[((xs.length : Int) - 1 + (k : Int) * -1).toNat]?) = xs.reverse := by
  apply List.ext_getElem?
  intro i
  have e : ∀ k ∈ List.range xs.length, xs.toArray[((xs.length : Int) - 1 + (k : Int) * -1).toNat]? = some (xs.reverse.getD k .none) := by
    intro k hk
    have hk := List.mem_range.mp hk
    have e1 : ((xs.length : Int) - 1 + (k : Int) * -1).toNat = xs.length - 1 - k := by omega
    rw [e1]
    have h2 : k < xs.reverse.length := by simpa using hk
    rw [List.getD_eq_getElem?_getD, List.getElem?_eq_getElem h2, Option.getD_some, List.getElem_reverse]
    simp
  have e3 : ((List.range xs.length).filterMap fun (k : Nat) => xs.toArray[((xs.length : Int) - 1 + (k : Int) * -1).toNat]?) = (List.range xs.length).map fun k => xs.reverse.getD k .none := by
    exact fm_map e
  rw [e3, List.getElem?_map]
  by_cases hi : i < xs.length
  · have h2 : i < xs.reverse.length := by simpa using hi
    rw [List.getElem?_range hi, Option.map_some, List.getD_eq_getElem?_getD, List.getElem?_eq_getElem h2, Option.getD_some]
  · rw [List.getElem?_eq_none (by simpa using hi), List.getElem?_eq_none (by simpa using hi)]
    rfl
theorem getItem_tuple_rev {t sl : Addr} {its : List Value} {vl vu vs : Value} {Q : Value → Shared → Prop} (ht : IsTup s.heap t its.toArray) (hs : s.heap.IsSliceOf sl vl vu vs) (pl : IsPart vl none) (pu : IsPart vu none) (ps : IsPart vs (some (-1)))
    (h : Q (.ref s.heap.objs.size) { s with heap := s.heap.push { cls := .type "tuple", data := .seq its.reverse.toArray } })
    (hsz : its.length ≤ sizeLine) : wpAny (model prog w) A (getItem (.ref t) (.ref sl)) Q E s := by
  have hok : sizeOk (.seq its.reverse.toArray) := by
    show its.reverse.toArray.size ≤ sizeLine
    simpa using hsz
  obtain ⟨os, hos, hcs, hds⟩ := id hs
  have hTs : s.TypeIs (.ref sl) "slice" := ⟨os, hos, hcs⟩
  unfold getItem
  try with_reducible refine wpAny_holding ?_
  first | refine wpAny_bind (wpAny_pure ?_) | skip
  refine wpAny_bind (wpAny_sequenceKey ht.typeIs (by decide) ?_)
  refine wpAny_bind (wpAny_callSpecial?_slot (name := Str.ofString "__getitem__") ht.typeIs PyProof.Rows.slot_tuple_getitem
    (wpAny_call_entry PyProof.Rows.slot_tuple_getitem ht.typeIs entry_tuple_getitem ?_ (args_tuple_getitem _ _)))
  show wpAny _ _ (Builtin.Tuple.tupleItemsOf (.ref t) >>= _) _ _ s
  refine wpAny_bind (tupleItemsOf_ ht ?_)
  refine wpAny_bind (wpAny_typeOf hTs ?_)
  rw [if_pos (by decide)]
  refine wpAny_bind (rev_applied (n := its.toArray.size) hs pl pu ps ?_)
  show wpAny _ _ (if (((its.toArray.size : Int) - 1) == 0 && (-1 : Int) == 1 && its.toArray.size == its.toArray.size) = true then _ else _) _ _ s
  rw [if_neg (by simp), show its.toArray.size = its.length from List.size_toArray, rev_range]
  first
    | exact wpAny_bind (m := Builtin.Tuple.tupleExact _) (wpAny_newObj_type (wpAny_pure ⟨_, rfl, wpAny_pure h⟩) hok)
    | exact wpAny_bind (m := Builtin.Tuple.tupleExact _) (wpAny_newObj_type (wpAny_bind (wpAny_pure (wpAny_pure ⟨_, rfl, wpAny_pure h⟩))) hok)
    | exact wpAny_bind (wpAny_bind (m := Builtin.Tuple.tupleExact _) (wpAny_newObj_type (wpAny_pure (wpAny_pure ⟨_, rfl, wpAny_pure h⟩)) hok))
    | exact wpAny_bind (wpAny_bind (m := Builtin.Tuple.tupleExact _) (wpAny_newObj_type (wpAny_pure ⟨_, rfl, wpAny_pure h⟩) hok))
end
section
variable {X : Cx}
def tRevT (K : PySem.W.Frag) (te : TE) : TE := fun σ H Q => te σ H fun x H1 => ∃ a xs, x = .ref a ∧ SqT K H1 a xs ∧ ∀ p, H1 p = none → Q (.ref p) (upd H1 p (.tup xs.reverse))
theorem pe_revT {e : Expr} {te : TE} {k : Nat} {p1 p2 p3 pos : Pos} (he : PE X e te) : PE X (.Subscript e (.Slice none none (some (.UnaryOp .USub (.Constant (.int 1) k p1) p2)) p3) pos) (tRevT X.K te) := by
  refine ⟨fun pins s σ H Q I h => ?_⟩
  refine Subscript_ (thn (he.run pins s σ H _ I h) fun v s1 ⟨x, H1, I1, r1, q1⟩ => ?_)
  obtain ⟨a, xs, ex, hx, q⟩ := q1
  subst ex
  cases r1
  have hst : PO X (some (.UnaryOp .USub (.Constant (.int 1) k p1) p2)) (tPart (tUn (rU fun i => .int (-i)) (tC (.int 1)))) := po_some (pe_un un_neg pe_int)
  refine wpAny_Slice (thn (po_none.run pins s1 σ H1 (fun o H2 => o = none ∧ H2 = H1) I1 ⟨rfl, rfl⟩) fun vl s2 ⟨l, H2, I2, pl, el, e2⟩ => ?_)
  subst el e2
  refine thn (po_none.run pins s2 σ H2 (fun o H3 => o = none ∧ H3 = H2) I2 ⟨rfl, rfl⟩) fun vu s3 ⟨u, H3, I3, pu, eu, e3⟩ => ?_
  subst eu e3
  refine thn (hst.run pins s3 σ H3 (fun o H4 => o = some (-1) ∧ H4 = H3) I3 ⟨1, rfl, -1, rfl, rfl, rfl⟩) fun vs s4 ⟨o, H4, I4, ps, eo, e4⟩ => ?_
  subst eo e4
  have I5 : Inv X pins σ H4 { s4 with heap := s4.heap.push { cls := .type "slice", data := .fields #[vl, vu, vs] } } := I4.kept (t' := s4.toks) fun b ob q => Heap.get?_push_of_some _ q
  obtain ⟨its, r, ht, hz⟩ := I5.tuple hx
  have hlen := r.length
  show wpAny (model X.prog X.w) X.A (subscriptTail e (.Slice none none (some (.UnaryOp .USub (.Constant (.int 1) k p1) p2)) p3) (.ref a) (.ref s4.heap.objs.size)) (EP X pins σ Q) X.xe { s4 with heap := s4.heap.push { cls := .type "slice", data := .fields #[vl, vu, vs] } }
  refine tail_any (ops := [.ref a, .ref s4.heap.objs.size]) ht.typeIs PyProof.Rows.slot_tuple_getitem.lookup ?_ (by with_unfolding_all rfl)
  refine getItem_tuple_rev ht (Heap.IsSliceOf.new _ vl vu vs) pl pu ps ?_ (by rw [← hlen]; exact hz)
  refine ⟨.ref _, _, I5.laid (t' := s4.toks) (o := .tup xs.reverse) (fun b ob q => Heap.get?_push_of_some _ q) (Nat.le_refl _) ?_, rfl, q _ (I5.hok.fresh (Nat.le_refl _))⟩
  exact ⟨by rw [List.length_reverse]; exact hz, _, r.reverse, IsTup.new _ _⟩
end
end TC

set_option Elab.async false
set_option linter.all false
set_option maxRecDepth 100000
set_option maxHeartbeats 2000000
namespace TC
open PySem PySem.Spec PyProof.Rows L2
section
variable {prog : Program} {w : World} {A : Around} {E : Value → Shared → Prop} {s : Shared}
theorem collect_tup {l : Addr} {vs : List Value} {Q : List Value → Shared → Prop} (hl : IsTup s.heap l vs.toArray)
    (h : Q vs { s with heap := (s.heap.push (seqObj "list" #[] 0)).update s.heap.objs.size (Obj.mapSeq (· ++ vs.toArray)) }) (hsz : vs.length ≤ sizeLine) :
    wpAny (model prog w) A (collect (.ref l)) Q E s := by
  obtain ⟨o, ho, hc, n, hd⟩ := id hl
  unfold collect
  refine wpAny_bind (wpAny_runValue (codeAny_builtin entry_proto_collect' ?_))
  show wpAny _ _ (do again (.builtin "list.__iadd__" ⟨[← newList [], .ref l], []⟩)) _ _ s
  refine wpAny_bind (wpAny_newList (wpAny_pure ⟨Code.quiet_builtin _ (by decide +kernel), codeAny_builtin entry_list_iadd' ?_⟩))
  show wpAny _ _ (Builtin.List.listExtendWith (.ref s.heap.objs.size) (.ref l) (.ref s.heap.objs.size)) _ _ { s with heap := s.heap.push (seqObj "list" #[] 0) }
  unfold Builtin.List.listExtendWith
  have ho' : (s.heap.push (seqObj "list" #[] 0)).get? l = some o := Heap.get?_push_of_some _ ho
  refine wpAny_bind (wpAny_typeOf (T := "tuple") ⟨o, ho', hc⟩ ?_)
  have ht : (Value.type "tuple" == Value.type "tuple") = true := by rfl
  rw [if_pos (by rw [ht]; simp)]
  refine wpAny_bind (listItems_at ho' hd ?_)
  refine wpAny_bind (listItems_at (xs := #[]) (n := 0) (Heap.get?_push_size _ rfl) rfl ?_)
  rw [if_neg (by simp)]
  refine wpAny_bind (listUpdate_at (xs := #[]) (n := 0) (Heap.get?_push_size _ rfl) rfl ?_ (Nat.zero_le _) (by show (#[] ++ vs.toArray).size ≤ sizeLine + 1; simp only [Array.size_append, List.size_toArray, List.length_nil]; omega))
  refine wpAny_pure ?_
  show wpAny (model prog w) A (do
      let o ← load s.heap.objs.size
      match o.data with
      | .seq xs _ => pure xs.toList
      | _ => unsupported "internal:collect") Q E { s with heap := (s.heap.push (seqObj "list" #[] 0)).update s.heap.objs.size (Obj.mapSeq (· ++ vs.toArray)) }
  refine wpAny_bind (wpAny_load (get?_update_seq (Heap.get?_push_size _ rfl) _) ?_)
  show wpAny _ _ (pure ((#[] : Array Value) ++ vs.toArray).toList) Q E _
  rw [show ((#[] : Array Value) ++ vs.toArray).toList = vs by simp]
  exact wpAny_pure h
theorem sorted_intsT {l : Addr} {vs : List Value} {ns : List Int} {Q : Value → Shared → Prop} (hl : IsTup s.heap l vs.toArray) (hI : IntsAre vs ns) (h64 : vs.length < 64)
    (h : ∀ (out : Array Value) (ns' : List Int), IntsAre out.toList ns' → ns'.Perm ns → ns'.Pairwise (· ≤ ·) → Q (.ref (s.heap.objs.size + 1)) { s with heap := sortedAll s.heap vs out }) :
    wpAny (model prog w) A (call (.builtin "sorted") [.ref l]) Q E s := by
  refine Calls.call_function_entry kind_sorted plain_sorted entry_sorted (args_sorted1 _) ?_
  unfold Builtin.«sorted»
  refine wpAny_bind (m := checkCount "sorted" 1 1 _) (wpAny_pure ?_)
  refine wpAny_bind (collect_tup hl ?_ (small64 h64))
  refine wpAny_bind (wpAny_newList ?_)
  have hsz : ((s.heap.push (seqObj "list" #[] 0)).update s.heap.objs.size (Obj.mapSeq (· ++ vs.toArray))).objs.size = s.heap.objs.size + 1 := by
    rw [Heap.size_update, size_push']
  have hoL : (((s.heap.push (seqObj "list" #[] 0)).update s.heap.objs.size (Obj.mapSeq (· ++ vs.toArray))).push (seqObj "list" vs.toArray 0)).get? (s.heap.objs.size + 1) = some (seqObj "list" vs.toArray 0) := by
    rw [← hsz]; exact Heap.get?_push_size _ rfl
  show wpAny _ _ _ _ _ { s with heap := ((s.heap.push (seqObj "list" #[] 0)).update s.heap.objs.size (Obj.mapSeq (· ++ vs.toArray))).push (seqObj "list" vs.toArray 0) }
  rw [hsz]
  refine wpAny_bind (wpAny_holding (wpAny_call_entry slot_list_sort ⟨_, hoL, rfl⟩ entry_list_sort (list_sort_tree hoL hI h64 fun out ns' a1 a2 a3 => ⟨_, rfl, ?_⟩) (args_list_sort _)))
  exact wpAny_pure ⟨_, rfl, h out ns' a1 a2 a3⟩
end
/-- sorted(t), t a tuple of ints -/
def rSortedTup (K : PySem.W.Frag) : List V → Hp → VK → Prop := fun vs H Q => ∃ (a : Addr) (ns : List Int), vs = [V.ref a] ∧ SqT K H a (ns.map V.int) ∧ ns.length < 64 ∧
  ∀ (ns' : List Int) (p : Addr), ns'.Perm ns → ns'.Pairwise (· ≤ ·) → H p = none → Q (.ref p) (upd H p (.lst (ns'.map V.int)))
section
variable {X : Cx}
theorem cr_sortedTup : CallR X (.builtin "sorted") (rSortedTup X.K) := by
  intro pins s σ H vs us Q I r h
  obtain ⟨a, ns, rfl, hs, h64, q⟩ := h
  obtain ⟨its, rv, hl, _⟩ := I.tuple hs
  rw [Vals.ref1 r]
  have hi := rv.ints
  refine sorted_intsT hl hi (by rw [hi.length]; exact h64) fun out ns' h1 h2 h3 => ?_
  obtain ⟨ep, he'⟩ := PyProof.Rows.sortedAll_at s.heap its out
  have hlen : (ns'.map V.int).length ≤ sizeLine := by rw [List.length_map, h2.length_eq]; exact small64 h64
  exact ⟨.ref _, upd H (s.heap.objs.size + 1) (.lst (ns'.map V.int)), I.laid (t' := s.toks) (fun _ _ => PyProof.Rows.sortedAll_old) (Nat.le_succ _) ⟨hlen, out.toList, ep, vals_of_ints h1, he'⟩, rfl, q ns' _ h2 h3 (I.hok.fresh (Nat.le_succ _))⟩
end
end TC

set_option Elab.async false
set_option linter.all false
set_option maxRecDepth 100000
set_option maxHeartbeats 2000000
namespace TC
open PySem PySem.Spec PyProof.Rows L2
/-- at a stands an exception of the class cls -/
def ExcAt (a : Addr) (cls : Value) (d : Option Addr) : Heap → Prop := fun h => ∃ o vs, h.get? a = some o ∧ Zc cls d o ∧ o.data = .fields vs
theorem ExcAt.steady {a : Addr} {cls : Value} {d : Option Addr} : ∀ h1 h2 : Heap, ExcAt a cls d h1 → (∀ o, h1.get? a = some o → h2.get? a = some o) → ExcAt a cls d h2 :=
  fun _ _ ⟨o, vs, h, z, q⟩ k => ⟨o, vs, k o h, z, q⟩
section
variable {X : Cx} {pins : List (Addr × Obj)} {σ : L2.St} {H : Hp} {s : Shared}
theorem track {a : Addr} {o : Obj} {φ : Heap → Prop} (I : Inv X pins σ H s) (ha : s.heap.get? a = some o) (na : H a = none) (n0 : X.s_0.heap.get? a = none) (nL : a ≠ X.env.locals)
    (nc : ∀ x c, X.env.cells.lookup x = some c → c ≠ a) (np : ∀ p ∈ X.pn ++ pins, p.1 ≠ a) (hφ : φ s.heap) (st : ∀ h1 h2 : Heap, φ h1 → (∀ o, h1.get? a = some o → h2.get? a = some o) → φ h2) :
    Inv X pins σ (upd H a (.ext φ)) s := by
  have ne : ∀ {b : Addr} {u : HO}, H b = some u → b ≠ a := fun e z => by rw [z, na] at e; cases e
  have keep : ∀ {b : Addr} {u : HO}, H b = some u → upd H a (.ext φ) b = some u := fun e => by rw [upd_ne (ne e)]; exact e
  have n0' : ∀ {b : Addr} {o : Obj}, X.s_0.heap.get? b = some o → b ≠ a := fun e z => by rw [z, n0] at e; cases e
  refine ⟨I.ok, I.os, I.bare, ⟨I.base.keep, I.base.slot, fun b ob e n hx => ?_, I.base.there, fun b xs e => keep (I.base.tups b xs e), fun b ob u e => keep (I.base.frzs b ob u e), fun b ps e => ?_⟩, I.loc, I.cell, ?_, fun x c e => ?_, fun p hp => ?_, fun b u e => ?_, I.len⟩
  · rw [upd_ne (n0' e)]; exact I.base.free b ob e n hx
  · obtain ⟨m, q⟩ := I.base.tbls b ps e
    exact ⟨m, keep q⟩
  · rw [upd_ne (Ne.symm nL)]; exact I.free
  · rw [upd_ne (nc x c e)]; exact I.freeC x c e
  · obtain ⟨h1, h2, h3, h4, h5⟩ := I.pin p hp
    exact ⟨h1, by rw [upd_ne (np p hp)]; exact h2, h3, h4, h5⟩
  · by_cases hb : b = a
    · subst hb
      rw [upd_same] at e
      cases e
      exact ⟨hφ, ⟨o, ha⟩, st⟩
    · rw [upd_ne hb] at e
      exact (I.hok b u e).stay (fun _ _ _ q => q) (fun _ q => keep q) fun _ _ q => keep q
end
def wHold (K : PySem.W.Frag) (c : Value) (i : Nat) (ts : Addr → Value → Option Addr → TS) (Wout : WX) (D : Ends) : WX := fun cls d σ H =>
  ∃ b, PySem.W.exmOne K cls c = some b ∧ (b = true → ∀ a, H a = none → ts a cls d { nx := fun σ' H' => D.nx (σ'.set i none) (upd H' a (.ext (ExcAt a cls d))), rt := fun _ _ => False } (σ.set i (some (.ref a))) H) ∧
    (b = false → Wout cls d σ H)
section
variable {X : Cx} {x n : Str} {c : Value} {i : Nat} {body suite : List Stmt} {b₀ : Stmt} {np pos pos' : Pos} {tb : WX → TS} {ts : Addr → Value → Option Addr → TS} {Wout : WX}
/-- try: body / except x as n: suite; the exception stays known behind it -/
theorem ps_try_hold (hs : X.stack = X.env :: X.outer) (hf : X.env.frame = some X.env.locals) (hN : X.N.Nodup) (hi : X.N[i]? = some n) (hln : X.env.kindOf n = some .local) (hex : X.ex = []) (hc : Names X x c) (tk : Takes X Wout)
    (hb : ∀ (W : WX) (pn : List (Addr × Obj)) (xe : Value → Shared → Prop), Takes (X.tr pn xe) W → PassesOwn (model X.prog X.w) X.A X.env xe → PSs (X.tr pn xe) body (tb W))
    (hsu : ∀ (a : Addr) (oe : Obj) (cls : Value) (d : Option Addr) (pn : List (Addr × Obj)), Zc cls d oe → (∃ vs, oe.data = .fields vs) → PSs (X.suite a ((a, oe) :: pn)) (b₀ :: suite) (ts a cls d)) :
    PS X (.Try body [.ExceptHandler (some (.Name x np)) (some n) (b₀ :: suite) pos'] [] [] pos) (fun D σ H => tb (wHold X.K c i ts Wout D) D σ H) := by
  refine ⟨fun pins s σ H D I h => ?_⟩
  have ok := I.ok
  have hfr : X.A.frames = some (X.env :: X.outer) := by rw [ok.frames, hs]
  have hloc : Loc X.env.scope n := .inl hln
  refine wpAny_Try_except ?_
  refine wpAny_mono ((hb (wHold X.K c i ts Wout D) (X.pn ++ pins) (fun e s₁ => wpAny (model X.prog X.w) X.A (noteFrame e X.env) (fun _ s₂ => wpAny (model X.prog X.w) X.A (setFlight e none) (fun _ s₃ =>
    wpAny (model X.prog X.w) X.A (handleBy e X.env [.ExceptHandler (some (.Name x np)) (some n) (b₀ :: suite) pos']) (SP X pins D) X.xe s₃) X.xe s₂) X.xe s₁) (fun u s' xx => ?_) PassesOwn.looking).run [] s σ H D (I.toTry _) h) (fun f s1 hsp => ?_) (fun e s1 he => he)
  · obtain ⟨a, B, sI, pins', σ', H', cls, d, rfl, J', nb, up, sky, na, os, ag, b, hb1, hyes, hno⟩ := xx
    have J : Inv X pins σ' H' sI := J'.ofTry ok
    have sky' : Sky B (X.env :: X.outer) a (Zc cls d) X.env.locals s'.heap := by rw [← hs]; exact sky
    show wpAny (model X.prog X.w) X.A (noteFrame (.ref a) X.env) _ _ _
    refine Sky.land Zc.steady hfr hf sky' fun h3 fl3 up3 => ?_
    have J3 : Inv X pins σ' H' { s' with heap := h3 } := J.landed nb fl3.1 (up.trans up3) os ag
    obtain ⟨oe3, vs3, he3, hz3, hd3⟩ := fl3.there
    have notFr : ∀ {h : Heap} {o : Obj} {vs : Array Value}, h.FunFrames B (X.env :: X.outer) → h.get? a = some o → o.data = .fields vs → a ∉ frs (X.env :: X.outer) := fun {h o vs} ff e dd hm => by
      obtain ⟨_, o', e', hnf⟩ := ff.mem hm
      rw [e] at e'; cases e'
      exact hnf _ dd
    have nfr := notFr fl3.2.2.1 he3 hd3
    have nL : a ≠ X.env.locals := fun z => nfr (List.mem_filterMap.mpr ⟨X.env, List.mem_cons_self, by rw [hf, z]⟩)
    have nF : a ∉ X.fs := fun hm => by
      obtain ⟨e, he, q⟩ := List.mem_filterMap.mp hm
      exact nfr (List.mem_filterMap.mpr ⟨e, List.mem_cons_of_mem _ he, q⟩)
    -- it is new
    have nI : sI.heap.get? a = none := by
      cases q : sI.heap.get? a with
      | none => rfl
      | some o =>
        have z := nb a o q (by rw [hs]; exact nfr)
        rw [fl3.2.1] at z; cases z
    have n0 : X.s_0.heap.get? a = none := by
      cases q : X.s_0.heap.get? a with
      | none => rfl
      | some o =>
        obtain ⟨o', z⟩ := J.base.there a o q (by rw [hex]; exact List.not_mem_nil)
        rw [nI] at z; cases z
    have npin : ∀ p ∈ X.pn ++ pins, p.1 ≠ a := fun p hp z => by
      have q := (J.pin p hp).1
      rw [z, nI] at q; cases q
    have ncell : ∀ y cc, X.env.cells.lookup y = some cc → cc ≠ a := fun y cc e z => by
      obtain ⟨v, o, ho, hd⟩ := J.cell y cc e
      rw [z, nI] at ho; cases ho
    have S3 := J3.suite he3 hd3 na nL nF
    refine wpAny_handleBy_cons (codeAny_handlers_test ?_) (by intro q; cases q)
    have LT : PySem.W.Looks (model X.prog X.w) h3 (typeOf (.ref a)) cls := fun A Q E s k q => wpAny_typeOf_ref (k _ _ he3) (by rw [hz3.1]; exact q)
    have LM := PySem.W.exm_one (M := model X.prog X.w) (J3.kIn) LT hb1
    have test : ∀ {Q : Value → Shared → Prop} {E : Value → Shared → Prop}, Q c { s' with heap := h3 } → wpAny (model X.prog X.w) (X.A.mark (some (.ref a))) (eval (.Name x np) X.env) Q E { s' with heap := h3 } := fun {Q E} q => by
      obtain ⟨hg, hdbg, hm | ⟨hm, hv, hnn⟩⟩ := hc
      · exact ld_glob (X := X.suite a ((a, oe3) :: (X.pn ++ pins))) S3 hg hm q hdbg
      · exact ld_blt (X := X.suite a ((a, oe3) :: (X.pn ++ pins))) S3 hg hm hv q hnn hdbg
    refine test (LM.here ?_)
    cases b with
    | true =>
      refine codeAny_handlers_suite_as ?_
      refine HandSPX.lands_againZ fl3 fun h4 fl4 up4 => ?_
      have J4 : Inv X pins σ' H' { s' with heap := h4 } := J.landed nb fl4.1 ((up.trans up3).trans up4) os ag
      obtain ⟨oe4, vs4, he4, hz4, hd4⟩ := fl4.there
      have S4 := J4.suite he4 hd4 na nL nF
      refine store_ok (X := X.suite a ((a, oe4) :: (X.pn ++ pins))) (v := .ref a) S4 hN hi hloc rfl (fun s5 S5 => ?_) (.inr hln)
      refine wpAny_mono ((hsu a oe4 cls d (X.pn ++ pins) hz4 ⟨_, hd4⟩).run [] s5 _ H' _ S5 (hyes rfl a na)) (fun f s6 hsp => ?_) (fun _ _ z => False.elim z)
      cases f with
      | next =>
        obtain ⟨σ6, H6, S6, q6⟩ := hsp
        obtain ⟨hget, hnone, _, _, _⟩ := S6.pin (a, oe4) (List.mem_append.mpr (.inl List.mem_cons_self))
        have T6 := track (S6.unsuite ok) hget hnone n0 nL ncell npin (φ := ExcAt a cls d) ⟨oe4, _, hget, hz4, hd4⟩ ExcAt.steady
        exact gone_ok T6 hN hi hln fun s7 J7 => ⟨_, _, J7, q6⟩
      | brk =>
        obtain ⟨σ6, H6, S6, q6⟩ := hsp
        exact q6.elim
      | cont =>
        obtain ⟨σ6, H6, S6, q6⟩ := hsp
        exact q6.elim
      | ret u =>
        obtain ⟨v6, σ6, H6, S6, r6, q6⟩ := hsp
        exact q6.elim
    | false =>
      show wpAny _ X.A (handleBy (.ref a) X.env []) _ _ _
      refine wpAny_handleBy_nil ?_
      obtain ⟨k1, k2, k3, oe, vs, T, oT, ts', he, hz, hd, h1, hr⟩ := id fl3
      unfold PySem.passOn
      refine wpAny_bind (wpAny_field he hd h1 ?_)
      rw [if_neg (show ¬ ((Value.ref T == Value.none) = true) from by simp)]
      have fin : wpAny (model X.prog X.w) X.A (setFlight (.ref a) X.env.frame) (fun _ s4 => wpAny (model X.prog X.w) X.A (throw (.ref a) : Sem Flow) (SP X pins D) X.xe s4) X.xe { s' with heap := h3 } := by
        rw [hf]
        refine HandSPX.setFlight_upZ fl3 fun h4 hh4 up4 => wpAny_throw (tk _ _ ?_)
        exact ⟨a, B, sI, pins, σ', H', cls, d, rfl, J, nb, (up.trans up3).trans up4, .inr (.inr (by rw [hs]; exact hh4)), na, os, ag, hno rfl⟩
      first
        | exact wpAny_bind (wpAny_pure (wpAny_bind fin))
        | exact wpAny_bind fin
  · cases f with
    | next =>
      obtain ⟨σ', H', J', q⟩ := hsp
      exact wpAny_execs_nil ⟨σ', H', J'.ofTry ok, q⟩
    | brk =>
      obtain ⟨σ', H', J', q⟩ := hsp
      exact ⟨σ', H', J'.ofTry ok, q⟩
    | cont =>
      obtain ⟨σ', H', J', q⟩ := hsp
      exact ⟨σ', H', J'.ofTry ok, q⟩
    | ret u =>
      obtain ⟨v, σ', H', J', r, q⟩ := hsp
      exact ⟨v, σ', H', J'.ofTry ok, r, q⟩
end
/-- isinstance of what was held -/
def rIsH (K : PySem.W.Frag) : List V → Hp → VK → Prop := fun xs H Q => ∃ (a D : Addr) (c : V) (cv : Value) (b : Bool), xs = [.ref a, c] ∧ H a = some (.ext (ExcAt a (.ref D) none)) ∧ ExcC K D ∧ ClsV c cv ∧ PySem.W.kitOne K (.ref D) cv = some b ∧ Q (.bl b) H
theorem call_isH {X : Cx} : CallR X (.builtin "isinstance") (rIsH X.K) := by
  intro pins s σ H xs us Q I r h
  obtain ⟨a, D, c, cv, b, rfl, hH, C, hcv, e, q⟩ := h
  cases r with
  | cons rx rr =>
    cases rr with
    | cons rt rr =>
      cases rr
      cases rx
      have ec := hcv.eq rt
      subst ec
      obtain ⟨⟨o, vs, hget, hz, hv⟩, _, _⟩ := (show ObjOk X.prog X.w H s.heap a (.ext (ExcAt a (.ref D) none)) from I.hok a _ hH)
      have J : PySem.W.InstAt s.heap a o D none := by
        obtain ⟨oc, od, oda, osl⟩ := o
        obtain ⟨h1, h2⟩ := hz
        dsimp only at h1 h2 hv
        subst h1 h2 hv
        exact ⟨hget, rfl, rfl, trivial⟩
      exact PySem.W.kia_one (PySem.W.handS_kitx_exc C.hg C.hk C.hs C.hd C.ha C.hn C.ht C.hm) I.kIn J e (fun z => nomatch z) fun tk => ⟨.bl b, H, I.kept (t' := tk) fun _ _ z => z, rfl, q⟩
/-- isinstance of anything -/
def rIsAny (K : PySem.W.Frag) : List V → Hp → VK → Prop := fun xs H Q => rIsi K xs H Q ∨ rIsH K xs H Q
theorem call_isAny {X : Cx} : CallR X (.builtin "isinstance") (rIsAny X.K) := by
  intro pins s σ H xs us Q I r h
  rcases h with h | h
  · exact call_isi pins s σ H xs us Q I r h
  · exact call_isH pins s σ H xs us Q I r h
end TC

set_option Elab.async false
set_option linter.all false
set_option maxRecDepth 100000
set_option maxHeartbeats 2000000
/-! Tuples whose object is known: their methods can be looked up. -/
namespace TC
open PySem PySem.Spec PyProof.Rows L2
def TupD (K : PySem.W.Frag) (H : Hp) (a : Addr) (xs : List V) : Prop := (∃ o, H a = some (.frz o (.tup xs)) ∧ o.dict = none) ∨
  ∃ (o : Obj) (its : Array Value) (n : Nat), K.lookup a = some o ∧ o.cls = .type "tuple" ∧ o.dict = none ∧ o.data = .seq its n ∧ its.size ≤ sizeLine ∧ Vals xs its.toList
theorem TupD.sq {K : PySem.W.Frag} {H : Hp} {a : Addr} {xs : List V} (h : TupD K H a xs) : SqT K H a xs := by
  rcases h with ⟨o, h, _⟩ | ⟨o, its, n, h1, h2, h3, h4, h5, h6⟩
  · exact .inl (.inr ⟨o, h⟩)
  · exact .inr ⟨o, its, n, h1, h2, h4, h5, h6⟩
/-- a new tuple with what is there: for every place, for some object without a dict -/
def NewT (xs : List V) (H : Hp) (Q : VK) : Prop := ∀ p o, H p = none → o.dict = none → Q (.ref p) (upd H p (.frz o (.tup xs)))
section
variable {X : Cx} {pins : List (Addr × Obj)} {σ : L2.St} {H : Hp} {s : Shared}
theorem newT_ok {xs : List V} {us : List Value} {Q : VK} (I : Inv X pins σ H s) (r : Vals xs us) (hz : xs.length ≤ sizeLine) (q : NewT xs H Q) :
    EP X pins σ Q (.ref s.heap.objs.size) { s with heap := s.heap.push { cls := .type "tuple", data := .seq us.toArray } } := by
  have hg : (s.heap.push { cls := .type "tuple", data := .seq us.toArray }).get? s.heap.objs.size = some { cls := .type "tuple", data := .seq us.toArray } := Heap.get?_push_size _ rfl
  exact ⟨.ref s.heap.objs.size, _, I.laid (t' := s.toks) (o := .frz { cls := .type "tuple", data := .seq us.toArray } (.tup xs)) (fun b u e => Heap.get?_push_of_some _ e) (Nat.le_refl _) ⟨hg, hz, us, r, ⟨_, hg, rfl, _, rfl⟩⟩, rfl, q _ _ (I.hok.fresh (Nat.le_refl _)) rfl⟩
variable {es : List Expr} {a b e o : Expr} {pos p : Pos} {ta tb te : TE} {t : TA}
def tTupF (t : TA) : TE := fun σ H Q => t σ H fun xs H1 => xs.length ≤ sizeLine ∧ NewT xs H1 Q
theorem pe_tupF {x1 : Nat} (h : PA X es t) : PE X (.Tuple es x1 pos) (tTupF t) := by
  refine ⟨fun pins s σ H Q I hq => ?_⟩
  exact wpAny_Tuple_spliced (thn (h.run pos pins s σ H _ I hq) fun us s1 ⟨xs, H1, I1, r, z, q⟩ => ⟨by rw [← r.length]; exact z, newT_ok I1 r z q⟩)
def rCatF (K : PySem.W.Frag) : R2 := fun x y H Q => ∃ a b xs ys, x = .ref a ∧ y = .ref b ∧ SqT K H a xs ∧ SqT K H b ys ∧ xs.length + ys.length ≤ sizeLine ∧
  (xs = [] → Q (.ref b) H) ∧ (xs ≠ [] → ys = [] → Q (.ref a) H) ∧ (xs ≠ [] → ys ≠ [] → NewT (xs ++ ys) H Q)
theorem op_catF : OpR X (binaryOp .Add) (rCatF X.K) := by
  intro pins s σ H x y v u Q I rx ry h
  obtain ⟨a, b, xs, ys, rfl, rfl, ha, hb, hz, q0, q1, q2⟩ := h
  by_cases hx : xs = []
  · exact op_catA pins s σ H _ _ v u Q I rx ry ⟨a, b, xs, ys, rfl, rfl, ha, hb, hz, q0, fun z => absurd hx z, fun z => absurd hx z⟩
  · cases rx
    cases ry
    obtain ⟨its, r1, p1, _⟩ := I.tuple ha
    obtain ⟨its2, r2, p2, _⟩ := I.tuple hb
    refine HT.cat_tup p1 p2 (fun z => hx (r1.nil_iff.mp z)) (fun z => ⟨.ref a, H, I, rfl, q1 hx (r2.nil_iff.mp z)⟩) (fun z => ?_) (by rw [← r1.length, ← r2.length]; exact hz)
    exact newT_ok I (r1.append r2) (by rw [List.length_append]; exact hz) (q2 hx fun w => z (r2.nil_iff.mpr w))
def rSlF (K : PySem.W.Frag) : V → Option Int → Option Int → Hp → VK → Prop := fun x lo hi H Q => ∃ a xs, x = .ref a ∧ SqT K H a xs ∧
  (HT.sIx xs.length 0 lo = 0 ∧ HT.sIx xs.length xs.length hi = xs.length → Q (.ref a) H) ∧ (¬ (HT.sIx xs.length 0 lo = 0 ∧ HT.sIx xs.length xs.length hi = xs.length) → NewT (cutV xs lo hi) H Q)
theorem sl_tupF : SlR X (rSlF X.K) := by
  intro pins s σ H x v vl vu lo hi sl Q I rx hs pl pu h
  obtain ⟨a, xs, rfl, hx, q1, q2⟩ := h
  by_cases hw : HT.sIx xs.length 0 lo = 0 ∧ HT.sIx xs.length xs.length hi = xs.length
  · exact sl_tupA pins s σ H _ v vl vu lo hi sl Q I rx hs pl pu ⟨a, xs, rfl, hx, q1, fun z => absurd hw z⟩
  · cases rx
    obtain ⟨its, r, ht, hz⟩ := I.tuple hx
    have hlen : its.toArray.size = xs.length := by rw [List.size_toArray]; exact r.length.symm
    refine ⟨"tuple", _, PyProof.Rows.slot_tuple_getitem.lookup, ht.typeIs, ?_⟩
    refine HT.getItem_tuple_cut ht hs pl pu (by rw [hlen]; exact hw) ?_ (by rw [hlen]; exact hz)
    rw [hlen]
    exact newT_ok I ((r.drop (HT.sIx xs.length 0 lo)).take (HT.sIx xs.length xs.length hi - HT.sIx xs.length 0 lo)) (Nat.le_trans (cutV_length xs lo hi) hz) (q2 hw)
def tRevF (K : PySem.W.Frag) (te : TE) : TE := fun σ H Q => te σ H fun x H1 => ∃ a xs, x = .ref a ∧ SqT K H1 a xs ∧ NewT xs.reverse H1 Q
theorem pe_revF {k : Nat} {p1 p2 p3 : Pos} (he : PE X e te) : PE X (.Subscript e (.Slice none none (some (.UnaryOp .USub (.Constant (.int 1) k p1) p2)) p3) pos) (tRevF X.K te) := by
  refine ⟨fun pins s σ H Q I h => ?_⟩
  refine Subscript_ (thn (he.run pins s σ H _ I h) fun v s1 ⟨x, H1, I1, r1, q1⟩ => ?_)
  obtain ⟨a, xs, ex, hx, q⟩ := q1
  subst ex
  cases r1
  have hst : PO X (some (.UnaryOp .USub (.Constant (.int 1) k p1) p2)) (tPart (tUn (rU fun i => .int (-i)) (tC (.int 1)))) := po_some (pe_un un_neg pe_int)
  refine wpAny_Slice (thn (po_none.run pins s1 σ H1 (fun o H2 => o = none ∧ H2 = H1) I1 ⟨rfl, rfl⟩) fun vl s2 ⟨l, H2, I2, pl, el, e2⟩ => ?_)
  subst el e2
  refine thn (po_none.run pins s2 σ H2 (fun o H3 => o = none ∧ H3 = H2) I2 ⟨rfl, rfl⟩) fun vu s3 ⟨u, H3, I3, pu, eu, e3⟩ => ?_
  subst eu e3
  refine thn (hst.run pins s3 σ H3 (fun o H4 => o = some (-1) ∧ H4 = H3) I3 ⟨1, rfl, -1, rfl, rfl, rfl⟩) fun vs s4 ⟨o, H4, I4, ps, eo, e4⟩ => ?_
  subst eo e4
  have I5 : Inv X pins σ H4 { s4 with heap := s4.heap.push { cls := .type "slice", data := .fields #[vl, vu, vs] } } := I4.kept (t' := s4.toks) fun b ob q => Heap.get?_push_of_some _ q
  obtain ⟨its, r, ht, hz⟩ := I5.tuple hx
  have hlen := r.length
  show wpAny (model X.prog X.w) X.A (subscriptTail e (.Slice none none (some (.UnaryOp .USub (.Constant (.int 1) k p1) p2)) p3) (.ref a) (.ref s4.heap.objs.size)) (EP X pins σ Q) X.xe { s4 with heap := s4.heap.push { cls := .type "slice", data := .fields #[vl, vu, vs] } }
  refine tail_any (ops := [.ref a, .ref s4.heap.objs.size]) ht.typeIs PyProof.Rows.slot_tuple_getitem.lookup ?_ (by with_unfolding_all rfl)
  refine getItem_tuple_rev ht (Heap.IsSliceOf.new _ vl vu vs) pl pu ps ?_ (by rw [← hlen]; exact hz)
  exact newT_ok I5 r.reverse (by rw [List.length_reverse]; exact hz) q
def rTupOf (K : PySem.W.Frag) : List V → Hp → VK → Prop := fun xs H Q => ∃ p ys, xs = [.ref p] ∧ ((SqL K H p ys ∧ NewT ys H Q) ∨ (SqT K H p ys ∧ Q (.ref p) H))
theorem call_tupOf : CallR X (.type "tuple") (rTupOf X.K) := by
  intro pins s σ H xs us Q I r h
  obtain ⟨p, ys, rfl, h⟩ := h
  obtain ⟨u, rfl, rx⟩ := vals1 r
  cases rx
  rcases h with ⟨hq, q⟩ | ⟨hq, q⟩
  · obtain ⟨its, r', pl, hz⟩ := I.list hq
    have hlen := r'.length
    refine call_tuple_list pl.isList (fun h' kp => ?_) (by simp only [List.size_toArray] <;> omega)
    have I1 : Inv X pins σ H { s with heap := h' } := I.kept (t' := s.toks) kp
    exact newT_ok I1 r' hz q
  · obtain ⟨its, r', pl, hz⟩ := I.tuple hq
    exact call_tuple_same pl ⟨.ref p, H, I, rfl, q⟩
def tTupRgF (te : L2.St → Hp → (Int → Int → Hp → Prop) → Prop) : TE := fun σ H Q => te σ H fun a b H1 => RgOk a b ∧ NewT (rgV a b) H1 Q
theorem pe_tupRgF {te : L2.St → Hp → (Int → Int → Hp → Prop) → Prop} (hc : X.calm = true) (hg : Gl X "tuple") (hm : X.mg "tuple" = none) (he : PRg X e te) (na : starEach [e] X.env = (false, eval e X.env) :: starEach [] X.env := by rfl) : PE X (.Call (.Name "tuple" p) [e] [] pos) (tTupRgF te) := by
  refine ⟨fun pins s σ H Q I h => ?_⟩
  refine Call_ (ld_blt I hg hm boot_tuple (PyProof.Rows.callWith_type1 (args_cons (thn (he pins s σ H _ I h) fun x s1 ⟨r, a, b, t, u, v, H1, ex, hr, I1, ok, q⟩ => args_nil ?_) na) na))
  subst ex
  obtain ⟨b1, b2, b3, b4, b5⟩ := ok
  refine call_tuple_range (n := (b - a).toNat) (I1.ok.hd hc) hr (small_one b1 b2 b3 b4) (rangeSize_nat a b) b5 fun h' tk acc hk hi => ?_
  have I2 : Inv X pins σ H1 { s1 with heap := h', toks := tk } := I1.kept hk
  have q2 := newT_ok I2 (vals_rg hi) (by rw [rgV_length, sizeLine_eq]; omega) q
  rw [Array.toArray_toList] at q2
  exact q2
/-- methods of such a tuple -/
def tyT (K : PySem.W.Frag) (x : V) (H : Hp) : Prop := ∃ p xs, x = .ref p ∧ TupD K H p xs
theorem tyT_is {x : V} {v : Value} (I : Inv X pins σ H s) (r : RelV x v) (ty : tyT X.K x H) : s.TypeIs v "tuple" ∧ ∀ a, v = .ref a → ∃ ob, s.heap.get? a = some ob ∧ ob.dict = none := by
  obtain ⟨p, xs, rfl, h⟩ := ty
  cases r
  rcases h with ⟨o, h, hd⟩ | ⟨o, its, n, h1, h2, h3, _⟩
  · obtain ⟨e, ho⟩ := (show ObjOk X.prog X.w H s.heap p (.frz o (.tup xs)) from I.hok p _ h)
    obtain ⟨_, its, _, p2⟩ := ho
    refine ⟨p2.typeIs, fun a e2 => ?_⟩
    cases e2
    exact ⟨o, e, hd⟩
  · refine ⟨⟨o, I.kIn p o h1, h2⟩, fun a e2 => ?_⟩
    cases e2
    exact ⟨o, I.kIn _ o h1, h3⟩
def tBT (K : PySem.W.Frag) (r : V → List V → Hp → VK → Prop) (to : TE) (t : TA) : TE := fun σ H Q => to σ H fun x H1 => tyT K x H1 ∧ t σ H1 fun xs H2 => r x xs H2 Q
theorem pe_bt {to : TE} {name : Str} {apos cpos : Pos} {id : String} {r : V → List V → Hp → VK → Prop} (pa : PlainAttrs "tuple") (slot : Slot "tuple" name id) (hty : typeOf (.builtin id) = pure (.type "method_descriptor")) (hm : MtR X id r) (ho : PE X o to) (ha : PA X (e :: es) t)
    (hbase : attributeBase o name X.env (eval o X.env) = eval o X.env := by rfl)
    (hfew : ((backTo cpos (starEach (e :: es) X.env)).all (fun x => !x.1) && (backToKw cpos (keywordEach [] X.env)).all (fun x => x.1.isSome)
      && decide ((e :: es).length + ([] : List Keyword).length + (if ([] : List Keyword).isEmpty then 0 else 1) < 30)) = true := by rfl)
    (hline : (apos.endLine == cpos.line) = true := by rfl) (hs : starEach (e :: es) X.env = (false, eval e X.env) :: starEach es X.env := by rfl) (hplain : (backTo cpos (starEach es X.env)).any (·.1) = false := by rfl) :
    PE X (.Call (.Attribute o name apos) (e :: es) [] cpos) (tBT X.K r to t) := by
  refine ⟨fun pins s σ H Q I h => ?_⟩
  refine wpAny_Call_method_late hbase hfew hline rfl (thn (ho.run pins s σ H _ I h) fun v s1 ⟨x, H1, I1, r1, ty, q1⟩ => ?_)
  obtain ⟨h1, h2⟩ := tyT_is I1 r1 ty
  refine ⟨"tuple", id, pa, slot, hty, h1, h2, ?_⟩
  have hA := ha.run cpos pins s1 σ H1 _ I1 q1
  rw [hs] at hA ⊢
  refine Calls.callWith_builtin (by show (false || (backTo cpos (starEach es X.env)).any (·.1)) = false; rw [hplain] <;> rfl) (Calls.evalArgs_plain ?_)
  exact thn hA fun us s2 ⟨vs, H2, I2, r2, q2⟩ => hm pins s2 σ H2 x vs v us Q I2 r1 r2 q2
end
end TC

set_option Elab.async false
set_option linter.all false
set_option maxRecDepth 100000
set_option maxHeartbeats 2000000
/-! Dicts keyed by rows of numbers, held by their one object; the keys stand where they stood. -/
namespace TC
open PySem PySem.Spec PyProof.Rows L2
abbrev Ent := List Int × Addr × Value
def entI (x : Ent) : DictEntry := ⟨reduceHash (Builtin.Tuple.tupleHashOf (x.1.map hashInt)), .ref x.2.1, x.2.2⟩
abbrev tupI (P : Program) (w : World) := tupleKind (intKind P w)
theorem ent_eq (P : Program) (w : World) (x : Ent) : entryOfKey (tupI P w) x = entI x := rfl
def DictI (a : Addr) (m : List Ent) (h : Heap) : Prop := (m.length ≤ sizeLine ∧ (a == sysModules) = false) ∧ ∃ o es ep, h.get? a = some o ∧ o.ExactDict ∧ o.data = .dict es ep ∧ es.toList = m.map entI ∧ (m.map (·.1)).Nodup
theorem DictI.at {a : Addr} {m : List Ent} {h1 h2 : Heap} (d : DictI a m h1) (k : ∀ o, h1.get? a = some o → h2.get? a = some o) : DictI a m h2 := by
  obtain ⟨z, o, es, ep, h, r⟩ := d
  exact ⟨z, o, es, ep, k _ h, r⟩
theorem dictI_ok {P : Program} {w : World} {H : Hp} {h : Heap} {a : Addr} {m : List Ent} (d : DictI a m h) : ObjOk P w H h a (.ext (DictI a m)) := by
  have ⟨_, o, _, _, ho, _⟩ := d
  exact ⟨d, ⟨o, ho⟩, fun h1 h2 p k => p.at k⟩
/-- such a dict, to be written or at rest -/
def DRd (H : Hp) (a : Addr) (m : List Ent) : Prop := H a = some (.ext (DictI a m)) ∨ ∃ o, H a = some (.frz o (.ext (DictI a m)))
/-- what the heap shows of such a dict -/
def KD (K : PySem.W.Frag) (H G : Hp) (a : Addr) (m : List Ent) : Prop := DRd H a m ∧ ∀ x ∈ m, TupD K G x.2.1 (x.1.map V.int)
section
variable {X : Cx} {pins : List (Addr × Obj)} {σ : L2.St} {H : Hp} {s : Shared} {a b : Addr} {m : List Ent} {k : List Int} {A : Around} {E : Value → Shared → Prop}
theorem items_int {P : Program} {w : World} : ∀ {ks : List Int} {us : List Value}, Vals (ks.map V.int) us → ItemsAre (intKind P w) ks us
  | [], _, r => by rw [List.map_nil] at r; cases r; exact .nil
  | k :: ks, _, r => by
    rw [List.map_cons] at r
    cases r with
    | cons h t =>
      obtain ⟨u, rfl⟩ := h
      exact .cons (by simp [intKind, Value.isInt]) (items_int t)
theorem key_int (I : Inv X pins σ H s) (T : TupD X.K H b (k.map V.int)) : (tupI X.prog X.w).is s.heap k b := by
  obtain ⟨its, r, ⟨o, h1, h2, n, h3⟩, _⟩ := I.tuple T.sq
  exact ⟨o, its.toArray, n, h1, h2, h3, by simpa using items_int r⟩
theorem dict_at (I : Inv X pins σ H s) (d : DRd H a m) : DictI a m s.heap := by
  rcases d with d | ⟨o, d⟩
  · exact (I.hok a _ d).1
  · exact (I.hok a _ d).2.1
theorem dict_of (I : Inv X pins σ H s) (d : KD X.K H H a m) : m.length ≤ sizeLine ∧ (a == sysModules) = false ∧ s.heap.DictOfH (tupI X.prog X.w) a m := by
  obtain ⟨⟨z, y⟩, o, es, ep, h1, h2, h3, h4, h5⟩ := dict_at I d.1
  exact ⟨z, y, o, es, ep, h1, h2, h3, h4, fun x hx => key_int I (d.2 x hx), h5⟩
/-- d[t] -/
def rDGetI (K : PySem.W.Frag) : R2 := fun x y H Q => ∃ a m b k p v, x = .ref a ∧ y = .ref b ∧ KD K H H a m ∧ TupD K H b (k.map V.int) ∧ atKey m k = some p ∧ RelV v p.2 ∧ Q v H
def tDGetI (K : PySem.W.Frag) (td ty : TE) : TE := tOp (rDGetI K) td ty
theorem pe_dgetI {o i : Expr} {pos : Pos} {td ty : TE} (hu : X.A.units + 1 < cLine) (ho : PE X o td) (hi : PE X i ty) (hs : NoSl i) : PE X (.Subscript o i pos) (tOp (rDGetI X.K) td ty) := by
  refine ⟨fun pins s σ H Q I h => ?_⟩
  refine subD_of PySem.F.slot_dict_getitem.lookup hs (thn (ho.run pins s σ H _ I h) fun u s1 ⟨x, H1, I1, rx, q1⟩ => thn (hi.run pins s1 σ H1 _ I1 q1) fun iv s2 ⟨y, H2, I2, ry, a, m, b, k, p, v, ex, ey, d, T, hp, rv, q2⟩ => ?_)
  subst ex ey
  obtain rfl : u = Value.ref a := rx
  obtain rfl : iv = Value.ref b := ry
  obtain ⟨z, hd, dd⟩ := dict_of I2 d
  exact ⟨dd.typeIs, wpAny_getItem_heap (tupleKind_room_in1 hu) (key_int I2 T) dd hp ⟨v, H2, I2.tok _, rv, q2⟩⟩
/-- t in d, t not in d -/
def rDInI (K : PySem.W.Frag) (neg : Bool) : R2 := fun y x H Q => ∃ a m b k, x = .ref a ∧ y = .ref b ∧ KD K H H a m ∧ TupD K H b (k.map V.int) ∧ Q (.bl (if neg then !(atKey m k).isSome else (atKey m k).isSome)) H
theorem op_inI (hu : X.A.units + 1 < cLine) : OpR X (compareOp .In) (rDInI X.K false) := by
  intro pins s σ H x y v u Q I rx ry h
  obtain ⟨a, m, b, k, rfl, rfl, d, T, q⟩ := h
  cases rx
  cases ry
  obtain ⟨z, hd, dd⟩ := dict_of I d
  exact wpAny_in_heap (tupleKind_room_in1 hu) (key_int I T) hd dd ⟨.bl (atKey m k).isSome, H, I.tok _, rfl, q⟩
theorem op_notInI (hu : X.A.units + 1 < cLine) : OpR X (compareOp .NotIn) (rDInI X.K true) := by
  intro pins s σ H x y v u Q I rx ry h
  obtain ⟨a, m, b, k, rfl, rfl, d, T, q⟩ := h
  cases rx
  cases ry
  obtain ⟨z, hd, dd⟩ := dict_of I d
  exact wpAny_notIn_heap (tupleKind_room_in1 hu) (key_int I T) hd dd ⟨.bl (!(atKey m k).isSome), H, I.tok _, rfl, q⟩
/-- d[t] = v -/
def rDSetI (K : PySem.W.Frag) : TSet := fun x y v H Q => ∃ a m b k, x = .ref a ∧ y = .ref b ∧ (H a = some (.ext (DictI a m)) ∧ KD K H H a m) ∧ TupD K H b (k.map V.int) ∧ m.length < sizeLine ∧ ∀ u, RelV v u → Q (upd H a (.ext (DictI a (storedH m k b u))))
theorem len_stored (m : List Ent) (k : List Int) (b : Addr) (u : Value) : (storedH m k b u).length ≤ m.length + 1 := by
  unfold storedH
  split
  · rw [List.length_map]
    omega
  · rw [List.length_append]
    simp
theorem set_dictI (hu : X.A.units + 1 < cLine) : PSet X (rDSetI X.K) := by
  intro pins s σ H o i v ov iv u Q I ro ri rv h
  obtain ⟨a, m, b, k, rfl, rfl, ⟨d0, d⟩, T, hl, q⟩ := h
  cases ro
  cases ri
  obtain ⟨z, hd, dd⟩ := dict_of I d
  refine wpAny_setItem_heap (hsz := z) (tupleKind_room_in1 hu) (key_int I T) dd fun h' dd' hs => ?_
  obtain ⟨q2, es, ep, hq, h2, h3, h4, _, h5⟩ := dd'
  have hl' : (storedH m k b u).length ≤ sizeLine := by
    have := len_stored m k b u
    omega
  exact ⟨_, d_write I (by rw [d0]; exact True.intro) hs ⟨q2, hq⟩ (dictI_ok ⟨⟨hl', hd⟩, q2, es, ep, hq, h2, h3, h4, h5⟩), q u rv⟩
/-- {} -/
def tDNewI : TE := fun _ H Q => ∀ p, H p = none → Q (.ref p) (upd H p (.ext (DictI p [])))
theorem dictI_empty (h : Heap) (hb : sysModules < h.objs.size) : DictI h.objs.size [] (h.push { cls := .type "dict", data := .dict #[] }) :=
  ⟨⟨Nat.zero_le _, beq_eq_false_iff_ne.mpr (Ne.symm (Nat.ne_of_lt hb))⟩, _, #[], 0, Heap.get?_push_size _ rfl, ⟨rfl, rfl, rfl⟩, rfl, rfl, List.nodup_nil⟩
theorem pe_dnewI {pos : Pos} : PE X (.Dict [] [] pos) tDNewI := ⟨fun pins s σ H Q I h =>
  wpAny_Dict_empty ⟨.ref s.heap.objs.size, _, I.laid (a := s.heap.objs.size) (o := .ext (DictI s.heap.objs.size [])) (t' := s.toks) (fun _ _ q => Heap.get?_push_of_some _ q) (Nat.le_refl _) (dictI_ok (dictI_empty s.heap I.big)), rfl, h _ (I.hok.fresh (Nat.le_refl _))⟩⟩
end
end TC

set_option Elab.async false
set_option linter.all false
set_option maxRecDepth 100000
set_option maxHeartbeats 2000000
/-! The data level: what values are, without the heap; mutable things by number. -/
namespace TC
open PySem PySem.Spec PyProof.Rows L2

inductive D where
  | non | bl (b : Bool) | int (i : Int) | str (x : Str)
  | tup (ds : List D) | lst (ds : List D)
  | dk (ks : List Key) (ds : List D) | dt (ks : List (List Int)) (ds : List D)
  | scr (ns : List Int) | ty (n : String) | own (a : Addr) | exc (C : Addr) | mt (k : Nat) | st

inductive Cell where
  | dead | any | lst (ds : List D) | dk (ks : List Key) (ds : List D) | dt (ks : List (List Int)) (ds : List D)

abbrev Sts := Option (Addr × Addr)
/-- a dict's entries: their keys, where those stand, their values -/
def DtOk (K : PySem.W.Frag) (G : Hp) (m : List Ent) (ks : List (List Int)) (vs : List V) : Prop := m.map (·.1) = ks ∧ (∀ x ∈ m, TupD K G x.2.1 (x.1.map V.int)) ∧ Vals vs (m.map (·.2.2))

mutual
inductive Is (K : PySem.W.Frag) (S : Sts) (α : List Addr) (G : Hp) : D → V → Prop
  | non : Is K S α G .non .non
  | bl (b : Bool) : Is K S α G (.bl b) (.bl b)
  | int (i : Int) : Is K S α G (.int i) (.int i)
  | str (x : Str) : Is K S α G (.str x) (.str x)
  | tup {a : Addr} {xs : List V} {ds : List D} : TupD K G a xs → Iss K S α G ds xs → Is K S α G (.tup ds) (.ref a)
  | lst {a : Addr} {xs : List V} {ds : List D} : G a = some (.lst xs) → Iss K S α G ds xs → Is K S α G (.lst ds) (.ref a)
  | scr {a : Addr} {ns : List Int} : SqL K G a (ns.map V.int) → Is K S α G (.scr ns) (.ref a)
  | dk {a : Addr} {xs : List V} {ks : List Key} {ds : List D} : G a = some (.dK (ks.zip xs)) → ks.length = xs.length → Iss K S α G ds xs → Is K S α G (.dk ks ds) (.ref a)
  | dt {a : Addr} {o : Obj} {m : List Ent} {vs : List V} {ks : List (List Int)} {ds : List D} : G a = some (.frz o (.ext (DictI a m))) → DtOk K G m ks vs → Iss K S α G ds vs → Is K S α G (.dt ks ds) (.ref a)
  | ty (n : String) : Is K S α G (.ty n) (.ty n)
  | own (a : Addr) : Is K S α G (.own a) (.ref a)
  | exc {a C : Addr} : G a = some (.ext (ExcAt a (.ref C) none)) → Is K S α G (.exc C) (.ref a)
  | mt {a : Addr} {k : Nat} : α[k]? = some a → Is K S α G (.mt k) (.ref a)
  | st {s c : Addr} : S = some (s, c) → Is K S α G .st (.ref s)
inductive Iss (K : PySem.W.Frag) (S : Sts) (α : List Addr) (G : Hp) : List D → List V → Prop
  | nil : Iss K S α G [] []
  | cons {d : D} {v : V} {ds : List D} {vs : List V} : Is K S α G d v → Iss K S α G ds vs → Iss K S α G (d :: ds) (v :: vs)
end

def Ex (G G' : Hp) : Prop := ∀ a o, G a = some o → G' a = some o
theorem Ex.refl (G : Hp) : Ex G G := fun _ _ h => h
theorem Ex.trans {G G1 G2 : Hp} (a : Ex G G1) (b : Ex G1 G2) : Ex G G2 := fun x o h => b x o (a x o h)
theorem Ex.rd {G G' : Hp} {a : Addr} {u : HO} (e : Ex G G') (h : Rd G a u) : Rd G' a u := by
  rcases h with h | ⟨o, h⟩
  · exact Or.inl (e a _ h)
  · exact Or.inr ⟨o, e a _ h⟩
theorem Ex.l {K : PySem.W.Frag} {G G' : Hp} {a : Addr} {xs : List V} (e : Ex G G') (h : SqL K G a xs) : SqL K G' a xs := by
  rcases h with h | h
  · exact Or.inl (e.rd h)
  · exact Or.inr h
theorem Ex.t {K : PySem.W.Frag} {G G' : Hp} {a : Addr} {xs : List V} (e : Ex G G') (h : SqT K G a xs) : SqT K G' a xs := by
  rcases h with h | h
  · exact Or.inl (e.rd h)
  · exact Or.inr h
theorem Ex.tupd {K : PySem.W.Frag} {G G' : Hp} {a : Addr} {xs : List V} (e : Ex G G') (h : TupD K G a xs) : TupD K G' a xs := by
  rcases h with ⟨o, h, q⟩ | h
  · exact .inl ⟨o, e a _ h, q⟩
  · exact .inr h
section
variable {K : PySem.W.Frag} {S : Sts} {α α' : List Addr} {G G' : Hp}
mutual
theorem Is.mono (e : Ex G G') (p : ∀ (k : Nat) (a : Addr), α[k]? = some a → α'[k]? = some a) : ∀ {d : D} {v : V}, Is K S α G d v → Is K S α' G' d v
  | _, _, .non => .non
  | _, _, .bl b => .bl b
  | _, _, .int i => .int i
  | _, _, .str x => .str x
  | _, _, .tup h r => .tup (e.tupd h) (Iss.mono e p r)
  | _, _, .lst h r => .lst (e _ _ h) (Iss.mono e p r)
  | _, _, .scr h => .scr (e.l h)
  | _, _, .dk h l r => .dk (e _ _ h) l (Iss.mono e p r)
  | _, _, .dt h l r => .dt (e _ _ h) ⟨l.1, fun x hx => e.tupd (l.2.1 x hx), l.2.2⟩ (Iss.mono e p r)
  | _, _, .ty n => .ty n
  | _, _, .own a => .own a
  | _, _, .exc h => .exc (e _ _ h)
  | _, _, .mt h => .mt (p _ _ h)
  | _, _, .st h => .st h
theorem Iss.mono (e : Ex G G') (p : ∀ (k : Nat) (a : Addr), α[k]? = some a → α'[k]? = some a) : ∀ {ds : List D} {vs : List V}, Iss K S α G ds vs → Iss K S α' G' ds vs
  | _, _, .nil => .nil
  | _, _, .cons h r => .cons (Is.mono e p h) (Iss.mono e p r)
end
theorem Iss.length : ∀ {ds : List D} {vs : List V}, Iss K S α G ds vs → ds.length = vs.length
  | _, _, .nil => rfl
  | _, _, .cons _ r => by rw [List.length_cons, List.length_cons, r.length]
theorem Iss.get : ∀ {ds : List D} {vs : List V} {i : Nat} {d : D}, Iss K S α G ds vs → ds[i]? = some d → ∃ v, vs[i]? = some v ∧ Is K S α G d v
  | _, _, _, _, .nil, h => by simp at h
  | _, _, 0, _, .cons h _, e => by simp at e; subst e; exact ⟨_, rfl, h⟩
  | _, _, i + 1, d, .cons _ r, e => by
    obtain ⟨v, h1, h2⟩ := Iss.get (i := i) (d := d) r (by simpa using e)
    exact ⟨v, by simpa using h1, h2⟩
theorem Iss.get' : ∀ {ds : List D} {vs : List V} {i : Nat} {v : V}, Iss K S α G ds vs → vs[i]? = some v → ∃ d, ds[i]? = some d ∧ Is K S α G d v
  | _, _, _, _, .nil, h => by simp at h
  | _, _, 0, _, .cons h _, e => by simp at e; subst e; exact ⟨_, rfl, h⟩
  | _, _, i + 1, d, .cons _ r, e => by
    obtain ⟨v, h1, h2⟩ := Iss.get' (i := i) (v := d) r (by simpa using e)
    exact ⟨v, by simpa using h1, h2⟩
theorem Iss.append : ∀ {ds es : List D} {vs ws : List V}, Iss K S α G ds vs → Iss K S α G es ws → Iss K S α G (ds ++ es) (vs ++ ws)
  | _, _, _, _, .nil, h => h
  | _, _, _, _, .cons h r, q => .cons h (Iss.append r q)
theorem Iss.set {d : D} {v : V} (h : Is K S α G d v) : ∀ {ds : List D} {vs : List V} (i : Nat), Iss K S α G ds vs → Iss K S α G (ds.set i d) (vs.set i v)
  | _, _, _, .nil => .nil
  | _, _, 0, .cons _ r => .cons h r
  | _, _, i + 1, .cons q r => .cons q (Iss.set h i r)
theorem Iss.take : ∀ {ds : List D} {vs : List V} (n : Nat), Iss K S α G ds vs → Iss K S α G (ds.take n) (vs.take n)
  | _, _, 0, _ => by simpa using Iss.nil
  | _, _, _ + 1, .nil => .nil
  | _, _, n + 1, .cons h r => .cons h (Iss.take n r)
theorem Iss.drop : ∀ {ds : List D} {vs : List V} (n : Nat), Iss K S α G ds vs → Iss K S α G (ds.drop n) (vs.drop n)
  | _, _, 0, r => r
  | _, _, _ + 1, .nil => .nil
  | _, _, n + 1, .cons _ r => Iss.drop n r
theorem Iss.reverse : ∀ {ds : List D} {vs : List V}, Iss K S α G ds vs → Iss K S α G ds.reverse vs.reverse
  | _, _, .nil => .nil
  | _, _, .cons h r => by
    rw [List.reverse_cons, List.reverse_cons]
    exact (Iss.reverse r).append (.cons h .nil)
theorem Iss.eraseIdx : ∀ {ds : List D} {vs : List V} (n : Nat), Iss K S α G ds vs → Iss K S α G (ds.eraseIdx n) (vs.eraseIdx n)
  | _, _, _, .nil => .nil
  | _, _, 0, .cons _ r => r
  | _, _, n + 1, .cons h r => .cons h (Iss.eraseIdx n r)
theorem Iss.ints : ∀ {ns : List Int} {vs : List V}, Iss K S α G (ns.map D.int) vs → vs = ns.map V.int
  | [], _, .nil => rfl
  | n :: ns, _, .cons h r => by
    cases h
    rw [Iss.ints (ns := ns) r]
    rfl
theorem Iss.of_ints : ∀ (ns : List Int), Iss K S α G (ns.map D.int) (ns.map V.int)
  | [] => .nil
  | n :: ns => .cons (.int n) (Iss.of_ints ns)
theorem Iss.bls : ∀ {bs : List Bool} {vs : List V}, Iss K S α G (bs.map D.bl) vs → vs = bs.map V.bl
  | [], _, .nil => rfl
  | n :: ns, _, .cons h r => by
    cases h
    rw [Iss.bls (bs := ns) r]
    rfl
end

/-! ### mutable things, the frame -/
structure Cfg where
  K : PySem.W.Frag
  S : Sts
  N0 : Addr → Bool
  H0 : Hp
def inS (S : Sts) (a : Addr) : Prop := ∃ s c, S = some (s, c) ∧ (a = s ∨ a = c)
/-- hidden: the callers' mutable things, our own living ones -/
def Hid (C : Cfg) (α : List Addr) (μ : List Cell) (a : Addr) : Prop := C.N0 a = true ∨ ∃ k : Nat, α[k]? = some a ∧ μ[k]? ≠ some Cell.dead
open Classical in
noncomputable def gk (C : Cfg) (α : List Addr) (μ : List Cell) (H : Hp) : Hp := fun a => if Hid C α μ a then none else H a
theorem gk_ex {C : Cfg} {α : List Addr} {μ : List Cell} {H : Hp} : Ex (gk C α μ H) H := fun a o h => by
  unfold gk at h
  split at h
  · cases h
  · exact h
theorem gk_of {C : Cfg} {α : List Addr} {μ : List Cell} {H : Hp} {a : Addr} {o : HO} (h : H a = some o) (n : ¬ Hid C α μ a) : gk C α μ H a = some o := by
  unfold gk
  rw [if_neg n]
  exact h
theorem gk_at {C : Cfg} {α : List Addr} {μ : List Cell} {H : Hp} {a : Addr} {o : HO} (h : gk C α μ H a = some o) : H a = some o ∧ ¬ Hid C α μ a := by
  unfold gk at h
  split at h
  · cases h
  · rename_i n
    exact ⟨h, n⟩
/-- the drawing state: a list [cells, number, number], the cells -/
def StOk (S : Sts) (H : Hp) : Prop := ∀ s c, S = some (s, c) → s ≠ c ∧ ∃ (p q : Int) (ns : List Int), H s = some (.lst [.ref c, .int p, .int q]) ∧ H c = some (.lst (ns.map V.int)) ∧
  ns ≠ [] ∧ ns.length ≤ 64 ∧ (∀ n ∈ ns, 0 ≤ n) ∧ 0 ≤ p ∧ 0 ≤ q ∧ q < 2147483647
def CellOk (K : PySem.W.Frag) (S : Sts) (α : List Addr) (G H : Hp) (a : Addr) : Cell → Prop
  | .dead => True
  | .any => True
  | .lst ds => ∃ xs, H a = some (.lst xs) ∧ Iss K S α G ds xs
  | .dk ks ds => ∃ xs, H a = some (.dK (ks.zip xs)) ∧ ks.length = xs.length ∧ Iss K S α G ds xs
  | .dt ks ds => ∃ (m : List Ent) (vs : List V), H a = some (.ext (DictI a m)) ∧ DtOk K G m ks vs ∧ Iss K S α G ds vs
abbrev Gam := List (Option D)
structure Rl (C : Cfg) (α : List Addr) (σ : L2.St) (H : Hp) (Γ : Gam) (μ : List Cell) : Prop where
  keep : ∀ a o, C.H0 a = some o → ¬ inS C.S a → H a = some o
  dom : ∀ a, C.N0 a = true → C.H0 a ≠ none
  sN : ∀ a, inS C.S a → C.N0 a = true
  new : ∀ a ∈ α, C.H0 a = none
  nd : α.Nodup
  there : ∀ a ∈ α, H a ≠ none
  len : α.length = μ.length
  cells : ∀ (k : Nat) a c, α[k]? = some a → μ[k]? = some c → CellOk C.K C.S α (gk C α μ H) H a c
  st : StOk C.S H
  slen : Γ.length = σ.length
  env : ∀ (i : Nat) d, Γ[i]? = some (some d) → ∃ v, σ[i]? = some (some v) ∧ Is C.K C.S α (gk C α μ H) d v
/-- what one may lean on later on -/
structure Mv (C : Cfg) (α : List Addr) (μ : List Cell) (H : Hp) (α' : List Addr) (μ' : List Cell) (H' : Hp) : Prop where
  pre : ∀ (k : Nat) a, α[k]? = some a → α'[k]? = some a
  ex : Ex (gk C α μ H) (gk C α' μ' H')
theorem Mv.refl {C : Cfg} {α : List Addr} {μ : List Cell} {H : Hp} : Mv C α μ H α μ H := ⟨fun _ _ h => h, Ex.refl _⟩
theorem Mv.trans {C : Cfg} {α α1 α2 : List Addr} {μ μ1 μ2 : List Cell} {H H1 H2 : Hp} (a : Mv C α μ H α1 μ1 H1) (b : Mv C α1 μ1 H1 α2 μ2 H2) : Mv C α μ H α2 μ2 H2 :=
  ⟨fun k x h => b.pre k x (a.pre k x h), a.ex.trans b.ex⟩
theorem Mv.is {C : Cfg} {α α1 : List Addr} {μ μ1 : List Cell} {H H1 : Hp} {d : D} {v : V} (a : Mv C α μ H α1 μ1 H1) (h : Is C.K C.S α (gk C α μ H) d v) : Is C.K C.S α1 (gk C α1 μ1 H1) d v := h.mono a.ex a.pre
theorem Mv.iss {C : Cfg} {α α1 : List Addr} {μ μ1 : List Cell} {H H1 : Hp} {d : List D} {v : List V} (a : Mv C α μ H α1 μ1 H1) (h : Iss C.K C.S α (gk C α μ H) d v) : Iss C.K C.S α1 (gk C α1 μ1 H1) d v := h.mono a.ex a.pre

theorem nodup_ix2 {A : Type} {l : List A} (hN : l.Nodup) {i j : Nat} {x : A} (a : l[i]? = some x) (b : l[j]? = some x) : i = j := by
  obtain ⟨h1, e1⟩ := List.getElem?_eq_some_iff.mp a
  obtain ⟨h2, e2⟩ := List.getElem?_eq_some_iff.mp b
  exact (List.getElem_inj hN).mp (e1.trans e2.symm)
section
variable {C : Cfg} {α : List Addr} {σ : L2.St} {H H' : Hp} {Γ : Gam} {μ : List Cell}
/-- all that stood stands, something may be new -/
theorem Mv.ext (e : Ex H H') : Mv C α μ H α μ H' := ⟨fun _ _ h => h, fun a o h => by
  obtain ⟨h1, h2⟩ := gk_at h
  exact gk_of (e a o h1) h2⟩
theorem CellOk.mono {K : PySem.W.Frag} {S : Sts} {α α' : List Addr} {G G' H H' : Hp} {a : Addr} {c : Cell} (e : Ex G G') (p : ∀ (k : Nat) a, α[k]? = some a → α'[k]? = some a) (h : ∀ o, H a = some o → H' a = some o) (x : CellOk K S α G H a c) : CellOk K S α' G' H' a c := by
  cases c with
  | dead => trivial
  | any => trivial
  | lst ds =>
    obtain ⟨xs, h1, h2⟩ := x
    exact ⟨xs, h _ h1, h2.mono e p⟩
  | dk ks ds =>
    obtain ⟨xs, h1, h2, h3⟩ := x
    exact ⟨xs, h _ h1, h2, h3.mono e p⟩
  | dt ks ds =>
    obtain ⟨m, vs, h1, h2, h3⟩ := x
    exact ⟨m, vs, h _ h1, ⟨h2.1, fun x hx => e.tupd (h2.2.1 x hx), h2.2.2⟩, h3.mono e p⟩
theorem StOk.mono {S : Sts} {H H' : Hp} (e : Ex H H') (h : StOk S H) : StOk S H' := fun s c q => by
  obtain ⟨n, p, q', ns, h1, h2, r⟩ := h s c q
  exact ⟨n, p, q', ns, e _ _ h1, e _ _ h2, r⟩
theorem Rl.ext (r : Rl C α σ H Γ μ) (e : Ex H H') : Rl C α σ H' Γ μ where
  keep := fun a o h n => e a o (r.keep a o h n)
  dom := r.dom
  sN := r.sN
  new := r.new
  nd := r.nd
  there := fun a h => by
    cases q : H a with
    | none => exact absurd q (r.there a h)
    | some o =>
      rw [e a o q]
      exact fun q => nomatch q
  len := r.len
  cells := fun k a c h1 h2 => (r.cells k a c h1 h2).mono (Mv.ext e).ex (fun _ _ h => h) (fun o => e a o)
  st := r.st.mono e
  slen := r.slen
  env := fun i d h => by
    obtain ⟨v, h1, h2⟩ := r.env i d h
    exact ⟨v, h1, (Mv.ext e).is h2⟩
/-- a mutable thing of ours stands in the heap, it is known to no immutable one -/
theorem Rl.hidden (r : Rl C α σ H Γ μ) {k : Nat} {a : Addr} (h : α[k]? = some a) (hd : μ[k]? ≠ some Cell.dead) : Hid C α μ a := .inr ⟨k, h, hd⟩
theorem Rl.alive (r : Rl C α σ H Γ μ) {a : Addr} (h : Hid C α μ a) : H a ≠ none := by
  rcases h with h | ⟨k, h, hd⟩
  · by_cases hs : inS C.S a
    · obtain ⟨s, c, e, z⟩ := hs
      obtain ⟨_, p, q, ns, h1, h2, _⟩ := r.st s c e
      rcases z with z | z
      · rw [z, h1]; exact fun q => nomatch q
      · rw [z, h2]; exact fun q => nomatch q
    · cases q : C.H0 a with
      | none => exact absurd q (r.dom a h)
      | some o =>
        rw [r.keep a o q hs]
        exact fun q => nomatch q
  · have hk : k < μ.length := by
      have := (List.getElem?_eq_some_iff.mp h).1
      rw [r.len] at this
      exact this
    have e := List.getElem?_eq_getElem hk
    have x := r.cells k a _ h e
    cases q : μ[k] with
    | dead => rw [e, q] at hd; exact absurd rfl hd
    | any => exact r.there a (List.mem_of_getElem? h)
    | lst ds =>
      rw [q] at x
      obtain ⟨xs, h1, _⟩ := x
      rw [h1]
      exact fun q => nomatch q
    | dk ks ds =>
      rw [q] at x
      obtain ⟨xs, h1, _⟩ := x
      rw [h1]
      exact fun q => nomatch q
    | dt ks ds =>
      rw [q] at x
      obtain ⟨m, vs, h1, _⟩ := x
      rw [h1]
      exact fun q => nomatch q
theorem Rl.free (r : Rl C α σ H Γ μ) {p : Addr} (h : H p = none) : ¬ Hid C α μ p := fun z => r.alive z h
theorem ex_new {p : Addr} {o : HO} (h : H p = none) : Ex H (upd H p o) := fun a u e => by
  rw [upd_ne (ne_of_none e h)]
  exact e
/-- a new immutable thing -/
theorem Rl.laid (r : Rl C α σ H Γ μ) {p : Addr} (o : HO) (h : H p = none) : gk C α μ (upd H p o) p = some o := gk_of upd_same (r.free h)
theorem Rl.setv (r : Rl C α σ H Γ μ) {i : Nat} {d : D} {v : V} (h : Is C.K C.S α (gk C α μ H) d v) : Rl C α (σ.set i (some v)) H (Γ.set i (some d)) μ where
  keep := r.keep
  dom := r.dom
  sN := r.sN
  new := r.new
  nd := r.nd
  there := r.there
  len := r.len
  cells := r.cells
  st := r.st
  slen := by rw [List.length_set, List.length_set]; exact r.slen
  env := fun j e q => by
    by_cases hj : i = j
    · subst hj
      by_cases hl : i < Γ.length
      · rw [List.getElem?_set_self hl] at q
        cases q
        exact ⟨v, by rw [List.getElem?_set_self (by rw [← r.slen]; exact hl)], h⟩
      · rw [List.getElem?_eq_none (by simpa using Nat.le_of_not_lt hl)] at q
        cases q
    · rw [List.getElem?_set_ne hj] at q ⊢
      exact r.env j e q
theorem Rl.setn (r : Rl C α σ H Γ μ) {i : Nat} : Rl C α (σ.set i none) H (Γ.set i none) μ where
  keep := r.keep
  dom := r.dom
  sN := r.sN
  new := r.new
  nd := r.nd
  there := r.there
  len := r.len
  cells := r.cells
  st := r.st
  slen := by rw [List.length_set, List.length_set]; exact r.slen
  env := fun j e q => by
    by_cases hj : i = j
    · subst hj
      by_cases hl : i < Γ.length
      · rw [List.getElem?_set_self hl] at q
        cases q
      · rw [List.getElem?_eq_none (by simpa using Nat.le_of_not_lt hl)] at q
        cases q
    · rw [List.getElem?_set_ne hj] at q ⊢
      exact r.env j e q
theorem Hid.grow {p : Addr} {c : Cell} (hl : α.length = μ.length) (nd : c ≠ .dead) {a : Addr} : Hid C (α ++ [p]) (μ ++ [c]) a ↔ (Hid C α μ a ∨ a = p) := by
  constructor
  · rintro (h | ⟨k, h, hd⟩)
    · exact .inl (.inl h)
    · by_cases hk : k < α.length
      · rw [List.getElem?_append_left hk] at h
        rw [List.getElem?_append_left (by omega)] at hd
        exact .inl (.inr ⟨k, h, hd⟩)
      · rw [List.getElem?_append_right (by omega)] at h
        have := List.mem_of_getElem? h
        exact .inr (by simpa using this)
  · rintro ((h | ⟨k, h, hd⟩) | h)
    · exact .inl h
    · have hk := (List.getElem?_eq_some_iff.mp h).1
      exact .inr ⟨k, by rw [List.getElem?_append_left hk]; exact h, by rw [List.getElem?_append_left (by omega)]; exact hd⟩
    · subst h
      refine .inr ⟨α.length, by simp, ?_⟩
      rw [hl]
      simpa using nd
/-- a new mutable thing -/
theorem Rl.grow (r : Rl C α σ H Γ μ) {p : Addr} {o : HO} {c : Cell} (h : H p = none) (hc : CellOk C.K C.S α (gk C α μ H) (upd H p o) p c) (nd : c ≠ .dead) :
    Rl C (α ++ [p]) σ (upd H p o) Γ (μ ++ [c]) ∧ Mv C α μ H (α ++ [p]) (μ ++ [c]) (upd H p o) := by
  have hp : ∀ (k : Nat) a, α[k]? = some a → (α ++ [p])[k]? = some a := fun k a q => by
    rw [List.getElem?_append_left (List.getElem?_eq_some_iff.mp q).1]
    exact q
  have np : p ∉ α := fun z => r.there p z h
  have e := ex_new (o := o) h
  have mv : Mv C α μ H (α ++ [p]) (μ ++ [c]) (upd H p o) := ⟨hp, fun a u q => by
    obtain ⟨h1, h2⟩ := gk_at q
    refine gk_of (e a u h1) fun z => ?_
    rcases (Hid.grow r.len nd).mp z with z | z
    · exact h2 z
    · rw [z, h] at h1; cases h1⟩
  refine ⟨⟨fun a u q n => e a u (r.keep a u q n), r.dom, r.sN, fun a ha => ?_, ?_, fun a ha => ?_, by simp [r.len], fun k a c' h1 h2 => ?_, r.st.mono e, r.slen, fun i d q => ?_⟩, mv⟩
  · rcases List.mem_append.mp ha with z | z
    · exact r.new a z
    · have z : a = p := by simpa using z
      subst z
      cases q : C.H0 a with
      | none => rfl
      | some u =>
        by_cases hs : inS C.S a
        · exact absurd h (r.alive (.inl (r.sN a hs)))
        · rw [r.keep a u q hs] at h; cases h
  · rw [List.nodup_append]
    refine ⟨r.nd, by simp, fun a ha b hb z => ?_⟩
    have hb : b = p := by simpa using hb
    exact np (by rw [← hb, ← z]; exact ha)
  · rcases List.mem_append.mp ha with z | z
    · cases q : H a with
      | none => exact absurd q (r.there a z)
      | some u =>
        rw [e a u q]
        exact fun q => nomatch q
    · have z : a = p := by simpa using z
      rw [z, upd_same]
      exact fun q => nomatch q
  · by_cases hk : k < α.length
    · rw [List.getElem?_append_left hk] at h1
      rw [List.getElem?_append_left (by rw [← r.len]; exact hk)] at h2
      exact (r.cells k a c' h1 h2).mono mv.ex hp (fun u => e a u)
    · rw [List.getElem?_append_right (by omega)] at h1
      rw [List.getElem?_append_right (by rw [← r.len]; omega)] at h2
      have z1 := List.mem_of_getElem? h1
      have z2 := List.mem_of_getElem? h2
      have z1 : a = p := by simpa using z1
      have z2 : c' = c := by simpa using z2
      subst z1 z2
      exact hc.mono mv.ex hp fun _ q => q
  · obtain ⟨v, h1, h2⟩ := r.env i d q
    exact ⟨v, h1, mv.is h2⟩
/-- a mutable thing is written -/
theorem Rl.write (r : Rl C α σ H Γ μ) {k : Nat} {p : Addr} {o : HO} {c : Cell} (h : α[k]? = some p) (ha : μ[k]? ≠ some Cell.dead) (hc : CellOk C.K C.S α (gk C α μ H) (upd H p o) p c) (nd : c ≠ .dead) :
    Rl C α σ (upd H p o) Γ (μ.set k c) ∧ Mv C α μ H α (μ.set k c) (upd H p o) := by
  have hk : k < α.length := (List.getElem?_eq_some_iff.mp h).1
  have hk' : k < μ.length := by rw [← r.len]; exact hk
  have hid : ∀ {a : Addr}, Hid C α (μ.set k c) a ↔ Hid C α μ a := fun {a} => by
    constructor
    · rintro (z | ⟨j, h1, h2⟩)
      · exact .inl z
      · by_cases hj : j = k
        · subst hj; exact .inr ⟨j, h1, ha⟩
        · rw [List.getElem?_set_ne (Ne.symm hj)] at h2; exact .inr ⟨j, h1, h2⟩
    · rintro (z | ⟨j, h1, h2⟩)
      · exact .inl z
      · by_cases hj : j = k
        · subst hj; exact .inr ⟨j, h1, by rw [List.getElem?_set_self hk']; simpa using nd⟩
        · exact .inr ⟨j, h1, by rw [List.getElem?_set_ne (Ne.symm hj)]; exact h2⟩
  have hp : Hid C α μ p := .inr ⟨k, h, ha⟩
  have new : C.H0 p = none := r.new p (List.mem_of_getElem? h)
  have ns : ¬ inS C.S p := fun z => r.dom p (r.sN p z) new
  have mv : Mv C α μ H α (μ.set k c) (upd H p o) := ⟨fun _ _ q => q, fun a u q => by
    obtain ⟨h1, h2⟩ := gk_at q
    refine gk_of ?_ (fun z => h2 (hid.mp z))
    rw [upd_ne (fun z => h2 (by rw [z]; exact hp))]
    exact h1⟩
  refine ⟨⟨fun a u q n => ?_, r.dom, r.sN, r.new, r.nd, fun a hm => ?_, by simp [r.len], fun j a c' h1 h2 => ?_, fun s c' e => ?_, r.slen, fun i d q => ?_⟩, mv⟩
  · rw [upd_ne (fun z => by rw [z, new] at q; cases q)]
    exact r.keep a u q n
  · by_cases z : a = p
    · rw [z, upd_same]; exact fun q => nomatch q
    · rw [upd_ne z]; exact r.there a hm
  · by_cases hj : j = k
    · subst hj
      rw [List.getElem?_set_self hk'] at h2
      cases h2
      rw [h] at h1
      cases h1
      exact hc.mono mv.ex (fun _ _ q => q) fun _ q => q
    · rw [List.getElem?_set_ne (Ne.symm hj)] at h2
      have ne : a ≠ p := fun z => by
        subst z
        exact hj (nodup_ix2 r.nd h1 h)
      exact (r.cells j a c' h1 h2).mono mv.ex (fun _ _ q => q) fun u q => by rw [upd_ne ne]; exact q
  · obtain ⟨n, p', q', ns', h1, h2, rr⟩ := r.st s c' e
    refine ⟨n, p', q', ns', ?_, ?_, rr⟩
    · rw [upd_ne (fun z => ns ⟨s, c', e, .inl z.symm⟩)]; exact h1
    · rw [upd_ne (fun z => ns ⟨s, c', e, .inr z.symm⟩)]; exact h2
  · obtain ⟨v, h1, h2⟩ := r.env i d q
    exact ⟨v, h1, mv.is h2⟩
/-- a mutable thing comes to rest -/
theorem Rl.kill (r : Rl C α σ H Γ μ) {k : Nat} : Rl C α σ H Γ (μ.set k .dead) ∧ Mv C α μ H α (μ.set k .dead) H := by
  have hid : ∀ {a : Addr}, Hid C α (μ.set k .dead) a → Hid C α μ a := fun {a} => by
    rintro (z | ⟨j, h1, h2⟩)
    · exact .inl z
    · by_cases hj : j = k
      · subst hj
        have hk' : j < μ.length := by rw [← r.len]; exact (List.getElem?_eq_some_iff.mp h1).1
        rw [List.getElem?_set_self hk'] at h2
        exact absurd rfl h2
      · rw [List.getElem?_set_ne (Ne.symm hj)] at h2; exact .inr ⟨j, h1, h2⟩
  have mv : Mv C α μ H α (μ.set k .dead) H := ⟨fun _ _ q => q, fun a u q => by
    obtain ⟨h1, h2⟩ := gk_at q
    exact gk_of h1 (fun z => h2 (hid z))⟩
  refine ⟨⟨r.keep, r.dom, r.sN, r.new, r.nd, r.there, by simp [r.len], fun j a c' h1 h2 => ?_, r.st, r.slen, fun i d q => ?_⟩, mv⟩
  · by_cases hj : j = k
    · subst hj
      have hk' : j < μ.length := by rw [← r.len]; exact (List.getElem?_eq_some_iff.mp h1).1
      rw [List.getElem?_set_self hk'] at h2
      cases h2
      trivial
    · rw [List.getElem?_set_ne (Ne.symm hj)] at h2
      exact (r.cells j a c' h1 h2).mono mv.ex (fun _ _ q => q) fun _ q => q
  · obtain ⟨v, h1, h2⟩ := r.env i d q
    exact ⟨v, h1, mv.is h2⟩
theorem Rl.dead_free (r : Rl C α σ H Γ μ) {k : Nat} {a : Addr} (h : α[k]? = some a) (hd : μ[k]? = some Cell.dead) : ¬ Hid C α μ a := by
  rintro (z | ⟨j, h1, h2⟩)
  · exact r.dom a z (r.new a (List.mem_of_getElem? h))
  · have := nodup_ix2 r.nd h h1
    subst this
    exact h2 hd
end
end TC

set_option Elab.async false
set_option linter.all false
set_option maxRecDepth 100000
set_option maxHeartbeats 2000000
/-! What is to hold at the data level, and that it carries over. -/
namespace TC
open PySem PySem.Spec PyProof.Rows L2
abbrev Mem := List Cell
abbrev RD := D → Mem → Prop
abbrev ZD := Addr → Gam → Mem → Prop
/-- an expression, a test, an argument list, at the data level -/
abbrev DX := Gam → Mem → RD → ZD → Prop
abbrev DT := Gam → Mem → (Bool → Mem → Prop) → ZD → Prop
abbrev DA := Gam → Mem → (List D → Mem → Prop) → ZD → Prop
structure Post where
  nx : Gam → Mem → Prop
  rt : RD
  bk : Gam → Mem → Prop
  ct : Gam → Mem → Prop
  rz : ZD
abbrev DS := Gam → Mem → Post → Prop

section
variable (C : Cfg) (W : WX)
def Kz (α : List Addr) (H : Hp) (μ : Mem) (Z : ZD) : Prop := ∀ cl α' Γ' μ' σ' H', Z cl Γ' μ' → Rl C α' σ' H' Γ' μ' → Mv C α μ H α' μ' H' → W (.ref cl) none σ' H'
def canE (w : DX) : TE := fun σ H Q => ∃ α Γ μ R Z, Rl C α σ H Γ μ ∧ w Γ μ R Z ∧
  (∀ d v α' μ' H', R d μ' → Rl C α' σ H' Γ μ' → Mv C α μ H α' μ' H' → Is C.K C.S α' (gk C α' μ' H') d v → Q v H') ∧ Kz C W α H μ Z
def canT (w : DT) : TT := fun σ H Q => ∃ α Γ μ R Z, Rl C α σ H Γ μ ∧ w Γ μ R Z ∧
  (∀ b α' μ' H', R b μ' → Rl C α' σ H' Γ μ' → Mv C α μ H α' μ' H' → Q b H') ∧ Kz C W α H μ Z
def canA (w : DA) : TA := fun σ H Q => ∃ α Γ μ R Z, Rl C α σ H Γ μ ∧ w Γ μ R Z ∧
  (∀ ds vs α' μ' H', R ds μ' → Rl C α' σ H' Γ μ' → Mv C α μ H α' μ' H' → Iss C.K C.S α' (gk C α' μ' H') ds vs → Q vs H') ∧ Kz C W α H μ Z
def canS (w : DS) : TS := fun D σ H => ∃ α Γ μ P, Rl C α σ H Γ μ ∧ w Γ μ P ∧
  (∀ α' Γ' μ' σ' H', P.nx Γ' μ' → Rl C α' σ' H' Γ' μ' → Mv C α μ H α' μ' H' → D.nx σ' H') ∧
  (∀ d v α' Γ' μ' σ' H', P.rt d μ' → Rl C α' σ' H' Γ' μ' → Mv C α μ H α' μ' H' → Is C.K C.S α' (gk C α' μ' H') d v → D.rt v H') ∧
  (∀ α' Γ' μ' σ' H', P.bk Γ' μ' → Rl C α' σ' H' Γ' μ' → Mv C α μ H α' μ' H' → D.bk σ' H') ∧
  (∀ α' Γ' μ' σ' H', P.ct Γ' μ' → Rl C α' σ' H' Γ' μ' → Mv C α μ H α' μ' H' → D.ct σ' H') ∧ Kz C W α H μ P.rz
end
theorem Kz.mv {C : Cfg} {W : WX} {α α1 : List Addr} {H H1 : Hp} {μ μ1 : Mem} {Z : ZD} (h : Kz C W α H μ Z) (m : Mv C α μ H α1 μ1 H1) : Kz C W α1 H1 μ1 Z :=
  fun cl α' Γ' μ' σ' H' z r q => h cl α' Γ' μ' σ' H' z r (m.trans q)

def DE (X : Cx) (C : Cfg) (W : WX) (e : Expr) (w : DX) : Prop := PE X e (canE C W w)
def DTs (X : Cx) (C : Cfg) (W : WX) (e : Expr) (w : DT) : Prop := PT X e (canT C W w)
def DAs (X : Cx) (C : Cfg) (W : WX) (es : List Expr) (w : DA) : Prop := PA X es (canA C W w)
def DSt (X : Cx) (C : Cfg) (W : WX) (s : Stmt) (w : DS) : Prop := PS X s (canS C W w)
def DSs (X : Cx) (C : Cfg) (W : WX) (ss : List Stmt) (w : DS) : Prop := PSs X ss (canS C W w)

theorem _root_.L2.PE.imp {X : Cx} {e : Expr} {t t' : TE} (h : PE X e t) (k : ∀ σ H Q, t' σ H Q → t σ H Q) : PE X e t' := ⟨fun pins s σ H Q I q => h.run pins s σ H Q I (k _ _ _ q)⟩
theorem _root_.L2.PT.imp {X : Cx} {e : Expr} {t t' : TT} (h : PT X e t) (k : ∀ σ H Q, t' σ H Q → t σ H Q) : PT X e t' := ⟨fun pins s σ H Q I q => h.run pins s σ H Q I (k _ _ _ q)⟩
theorem _root_.L2.PA.imp {X : Cx} {e : List Expr} {t t' : TA} (h : PA X e t) (k : ∀ σ H Q, t' σ H Q → t σ H Q) : PA X e t' := ⟨fun pos pins s σ H Q I q => h.run pos pins s σ H Q I (k _ _ _ q)⟩
theorem _root_.L2.PS.imp {X : Cx} {e : Stmt} {t t' : TS} (h : PS X e t) (k : ∀ D σ H, t' D σ H → t D σ H) : PS X e t' := ⟨fun pins s σ H D I q => h.run pins s σ H D I (k _ _ _ q)⟩
theorem _root_.L2.PSs.imp {X : Cx} {e : List Stmt} {t t' : TS} (h : PSs X e t) (k : ∀ D σ H, t' D σ H → t D σ H) : PSs X e t' := ⟨fun pins s σ H D I q => h.run pins s σ H D I (k _ _ _ q)⟩

section
variable {X : Cx} {C : Cfg} {W : WX} {a b c e : Expr} {es : List Expr} {wa wb wc we : DX} {pos : Pos} {α : List Addr} {σ : L2.St} {H : Hp} {Γ : Gam} {μ : Mem}
/-! ### names, constants -/
def wVar (i : Nat) : DX := fun Γ μ R _ => match Γ[i]? with
  | some (some d) => R d μ
  | _ => False
theorem de_var {x : Str} (i : Nat) (h : PE X (.Name x pos) (tVar i)) : DE X C W (.Name x pos) (wVar i) := h.imp fun σ H Q ⟨α, Γ, μ, R, Z, r, w, k, _⟩ => by
  unfold wVar at w
  split at w
  · rename_i d hd
    obtain ⟨v, h1, h2⟩ := r.env i d hd
    exact ⟨v, h1, k d v α μ H w r Mv.refl h2⟩
  · exact w.elim
def wC (d : D) : DX := fun _ μ R _ => R d μ
theorem de_c {v : V} {d : D} (h : PE X e (tC v)) (hd : ∀ α G, Is C.K C.S α G d v) : DE X C W e (wC d) := h.imp fun σ H Q ⟨α, Γ, μ, R, Z, r, w, k, _⟩ => k d v α μ H w r Mv.refl (hd _ _)
theorem de_int {i : Int} {k : Nat} : DE X C W (.Constant (.int i) k pos) (wC (.int i)) := de_c pe_int fun _ _ => .int i
theorem de_bl {b : Bool} {k : Nat} : DE X C W (.Constant (.bool b) k pos) (wC (.bl b)) := de_c pe_bl fun _ _ => .bl b
theorem de_non {k : Nat} : DE X C W (.Constant .none k pos) (wC .non) := de_c pe_non fun _ _ => .non
theorem de_str {z : Str} {k : Nat} : DE X C W (.Constant (.str z) k pos) (wC (.str z)) := de_c pe_str fun _ _ => .str z

/-! ### operators -/
/-- an operator's reading on values carries the data's -/
def SndOp (C : Cfg) (r : R2) (f : D → D → Mem → RD → Prop) : Prop := ∀ (x y : D) (v u : V) (α : List Addr) (σ : L2.St) (H : Hp) (Γ : Gam) (μ : Mem) (R : RD) (Q : VK), Rl C α σ H Γ μ →
  Is C.K C.S α (gk C α μ H) x v → Is C.K C.S α (gk C α μ H) y u → f x y μ R →
  (∀ d v' α' μ' H', R d μ' → Rl C α' σ H' Γ μ' → Mv C α μ H α' μ' H' → Is C.K C.S α' (gk C α' μ' H') d v' → Q v' H') → r v u H Q
def wBin (f : D → D → Mem → RD → Prop) (wa wb : DX) : DX := fun Γ μ R Z => wa Γ μ (fun x μ1 => wb Γ μ1 (fun y μ2 => f x y μ2 R) Z) Z
theorem two {r : R2} {f : D → D → Mem → RD → Prop} (sn : SndOp C r f) {Q : VK} (h : canE C W (wBin f wa wb) σ H Q) : tOp r (canE C W wa) (canE C W wb) σ H Q := by
  obtain ⟨α, Γ, μ, R, Z, r, w, k, z⟩ := h
  refine ⟨α, Γ, μ, _, Z, r, w, fun x v α1 μ1 H1 w1 r1 m1 i1 => ?_, z⟩
  refine ⟨α1, Γ, μ1, _, Z, r1, w1, fun y u α2 μ2 H2 w2 r2 m2 i2 => ?_, z.mv m1⟩
  exact sn x y v u α2 σ H2 Γ μ2 R Q r2 (m2.is i1) i2 w2 fun d v' α' μ' H' w3 r3 m3 i3 => k d v' α' μ' H' w3 r3 ((m1.trans m2).trans m3) i3
theorem de_op {op : Operator} {r : R2} {f : D → D → Mem → RD → Prop} (ho : OpR X (binaryOp op) r) (sn : SndOp C r f) (ha : DE X C W a wa) (hb : DE X C W b wb) : DE X C W (.BinOp a op b pos) (wBin f wa wb) :=
  (pe_op ho ha hb).imp fun σ H Q h => two sn h
theorem de_cmp {op : CmpOp} {r : R2} {f : D → D → Mem → RD → Prop} (ho : OpR X (compareOp op) r) (sn : SndOp C r f) (ha : DE X C W a wa) (hb : DE X C W b wb) (hm : behindInMarks op b = false := by rfl) : DE X C W (.Compare a [op] [b] pos) (wBin f wa wb) :=
  (pe_cmpR ho ha hb hm).imp fun σ H Q h => two sn h
theorem de_ix {r : R2} {f : D → D → Mem → RD → Prop} (ho : IxR X r) (sn : SndOp C r f) (ha : DE X C W a wa) (hb : DE X C W b wb) (hs : PlainIx b) : DE X C W (.Subscript a b pos) (wBin f wa wb) :=
  (pe_ix ho ha hb hs).imp fun σ H Q h => two sn h
theorem SndOp.or {r r' : R2} {f f' : D → D → Mem → RD → Prop} (h : SndOp C r f) (h' : SndOp C r' f') : SndOp C (fun x y H Q => r x y H Q ∨ r' x y H Q) (fun x y μ R => f x y μ R ∨ f' x y μ R) :=
  fun x y v u α σ H Γ μ R Q rl ix iy w k => by
    rcases w with w | w
    · exact .inl (h x y v u α σ H Γ μ R Q rl ix iy w k)
    · exact .inr (h' x y v u α σ H Γ μ R Q rl ix iy w k)
theorem opr_or {F : Value → Value → Sem Value} {r r' : R2} (h : OpR X F r) (h' : OpR X F r') : OpR X F (fun x y H Q => r x y H Q ∨ r' x y H Q) := by
  intro pins s σ H x y v u Q I rx ry q
  rcases q with q | q
  · exact h pins s σ H x y v u Q I rx ry q
  · exact h' pins s σ H x y v u Q I rx ry q

/-! ### tests -/
def wTest (w : DX) : DT := fun Γ μ R Z => w Γ μ (fun d μ1 => match d with
  | .bl b => R b μ1
  | _ => False) Z
theorem dt_val (h : DE X C W e we) (hp : ∀ {t : TE}, PE X e t → PT X e (tB t) := by exact fun h => pt_val h) : DTs X C W e (wTest we) := (hp h).imp fun σ H Q ⟨α, Γ, μ, R, Z, r, w, k, z⟩ => by
  refine ⟨α, Γ, μ, _, Z, r, w, fun d v α1 μ1 H1 w1 r1 m1 i1 => ?_, z⟩
  cases d <;> first | exact w1.elim | skip
  cases i1
  exact ⟨_, rfl, k _ _ _ _ w1 r1 m1⟩
end
end TC

set_option Elab.async false
set_option linter.all false
set_option maxRecDepth 100000
set_option maxHeartbeats 2000000
namespace TC
open PySem PySem.Spec PyProof.Rows L2
/-! ### reading through a mutable thing -/
def cellD (k : Nat) : Option Cell → D
  | some (.lst ds) => .lst ds
  | some (.dk ks ds) => .dk ks ds
  | _ => .mt k
def res (d : D) (μ : Mem) : D := match d with
  | .mt k => cellD k μ[k]?
  | d => d
section
variable {X : Cx} {C : Cfg} {W : WX} {a b c e : Expr} {es : List Expr} {wa wb wc we : DX} {pos : Pos} {α : List Addr} {σ : L2.St} {H : Hp} {Γ : Gam} {μ : Mem} {d x y : D} {v u : V}
theorem Rl.res (r : Rl C α σ H Γ μ) (h : Is C.K C.S α (gk C α μ H) d v) : Is C.K C.S α H (TC.res d μ) v := by
  have m : Is C.K C.S α H d v := h.mono gk_ex fun _ _ q => q
  cases d with
  | mt k =>
    cases h with
    | mt hk =>
      show Is C.K C.S α H (cellD k μ[k]?) _
      cases q : μ[k]? with
      | none => exact m
      | some cell =>
        have x := r.cells k _ cell hk q
        cases cell with
        | dead => exact m
        | any => exact m
        | lst ds =>
          obtain ⟨xs, h1, h2⟩ := x
          exact .lst h1 (h2.mono gk_ex fun _ _ q => q)
        | dk ks ds =>
          obtain ⟨xs, h1, h2, h3⟩ := x
          exact .dk h1 h2 (h3.mono gk_ex fun _ _ q => q)
        | dt ks ds => exact m
  | _ => exact m
/-- the items of a list or tuple -/
def items (d : D) (μ : Mem) : Option (List D) := match d with
  | .tup ds => some ds
  | .lst ds => some ds
  | .scr ns => some (ns.map .int)
  | .mt k => match μ[k]? with
    | some (.lst ds) => some ds
    | _ => none
  | _ => none
theorem Rl.items (r : Rl C α σ H Γ μ) (h : Is C.K C.S α (gk C α μ H) d v) {ds : List D} (hi : TC.items d μ = some ds) :
    ∃ p xs, v = .ref p ∧ (SqL C.K H p xs ∨ SqT C.K H p xs) ∧ Iss C.K C.S α (gk C α μ H) ds xs := by
  unfold TC.items at hi
  cases h with
  | tup h q => cases hi; exact ⟨_, _, rfl, .inr (gk_ex.t h.sq), q⟩
  | lst h q => cases hi; exact ⟨_, _, rfl, .inl (SqL.of (gk_ex _ _ h)), q⟩
  | scr h => cases hi; exact ⟨_, _, rfl, .inl (gk_ex.l h), Iss.of_ints _⟩
  | mt hk =>
    rename_i k
    have hi : (match μ[k]? with | some (.lst ds) => some ds | _ => none) = some ds := hi
    split at hi
    · rename_i ds' q
      cases hi
      obtain ⟨xs, h1, h2⟩ := r.cells k _ _ hk q
      exact ⟨_, _, rfl, .inl (SqL.of h1), h2⟩
    · cases hi
  | _ => cases hi
/-! ### new things -/
def big : Nat := 1000000
theorem big_ok {n : Nat} (h : n ≤ big) : n ≤ sizeLine := Nat.le_trans h (by decide)
theorem big_lt {n : Nat} (h : n < big) : n < sizeLine := Nat.lt_of_lt_of_le h (by decide)
theorem Rl.tup (r : Rl C α σ H Γ μ) {p : Addr} {o : Obj} (hp : H p = none) (ho : o.dict = none) {ds : List D} {xs : List V} (h : Iss C.K C.S α (gk C α μ H) ds xs) :
    Rl C α σ (upd H p (.frz o (.tup xs))) Γ μ ∧ Mv C α μ H α μ (upd H p (.frz o (.tup xs))) ∧ Is C.K C.S α (gk C α μ (upd H p (.frz o (.tup xs)))) (.tup ds) (.ref p) :=
  ⟨r.ext (ex_new hp), Mv.ext (ex_new hp), .tup (.inl ⟨o, r.laid _ hp, ho⟩) ((Mv.ext (ex_new hp)).iss h)⟩
theorem Rl.lst (r : Rl C α σ H Γ μ) {p : Addr} (hp : H p = none) {ds : List D} {xs : List V} (h : Iss C.K C.S α (gk C α μ H) ds xs) :
    Rl C α σ (upd H p (.lst xs)) Γ μ ∧ Mv C α μ H α μ (upd H p (.lst xs)) ∧ Is C.K C.S α (gk C α μ (upd H p (.lst xs))) (.lst ds) (.ref p) :=
  ⟨r.ext (ex_new hp), Mv.ext (ex_new hp), .lst (r.laid _ hp) ((Mv.ext (ex_new hp)).iss h)⟩

/-! ### the operators -/
def fI (g : Int → Int → D) (P : Int → Int → Prop) : D → D → Mem → RD → Prop := fun x y μ R => match x, y with
  | .int i, .int j => P i j ∧ R (g i j) μ
  | _, _ => False
theorem sn_I {C : Cfg} {P : Int → Int → Prop} {g : Int → Int → V} {g' : Int → Int → D} (hg : ∀ i j α G, Is C.K C.S α G (g' i j) (g i j)) : SndOp C (rI P g) (fI g' P) := by
  intro x y v u α σ H Γ μ R Q r ix iy w k
  unfold fI at w
  split at w
  · cases ix
    cases iy
    exact ⟨_, _, rfl, rfl, w.1, k _ _ _ _ _ w.2 r Mv.refl (hg _ _ _ _)⟩
  · exact w.elim
theorem opr_I0 {F : Value → Value → Sem Value} {g : Int → Int → V} (h : OpR X F (rI0 g)) : OpR X F (rI (fun _ _ => True) g) := fun pins s σ H x y v u Q I rx ry q => by
  obtain ⟨i, j, e1, e2, _, q⟩ := q
  exact h pins s σ H x y v u Q I rx ry ⟨i, j, e1, e2, q⟩
abbrev fT : Int → Int → Prop := fun _ _ => True
def dSub := fI (fun i j => .int (i - j)) fT
def dMulI := fI (fun i j => .int (i * j)) fun i j => (-(2 ^ 64) < i ∧ i < 2 ^ 64) ∨ (-(2 ^ 64) < j ∧ j < 2 ^ 64)
def dMod := fI (fun i j => .int (i.fmod j)) fun _ j => j ≠ 0
def dFdiv := fI (fun i j => .int (i.fdiv j)) fun _ j => j ≠ 0 ∧ j.natAbs < 1073741824
def dLt := fI (fun i j => .bl (decide (i < j))) fT
def dLe := fI (fun i j => .bl (decide (i ≤ j))) fT
def dGt := fI (fun i j => .bl (decide (j < i))) fT
def dGe := fI (fun i j => .bl (decide (j ≤ i))) fT
theorem de_sub (ha : DE X C W a wa) (hb : DE X C W b wb) : DE X C W (.BinOp a .Sub b pos) (wBin dSub wa wb) := de_op (opr_I0 op_sub) (sn_I fun _ _ _ _ => .int _) ha hb
theorem de_mod (ha : DE X C W a wa) (hb : DE X C W b wb) : DE X C W (.BinOp a .Mod b pos) (wBin dMod wa wb) := de_op op_modN (sn_I fun _ _ _ _ => .int _) ha hb
theorem de_fdiv (ha : DE X C W a wa) (hb : DE X C W b wb) : DE X C W (.BinOp a .FloorDiv b pos) (wBin dFdiv wa wb) := de_op op_fdivN (sn_I fun _ _ _ _ => .int _) ha hb
theorem de_mulI (ha : DE X C W a wa) (hb : DE X C W b wb) : DE X C W (.BinOp a .Mult b pos) (wBin dMulI wa wb) := de_op op_mul (sn_I fun _ _ _ _ => .int _) ha hb
theorem de_lt (ha : DE X C W a wa) (hb : DE X C W b wb) : DE X C W (.Compare a [.Lt] [b] pos) (wBin dLt wa wb) := de_cmp (opr_I0 op_lt) (sn_I fun _ _ _ _ => .bl _) ha hb (nomark _)
theorem de_le (ha : DE X C W a wa) (hb : DE X C W b wb) : DE X C W (.Compare a [.LtE] [b] pos) (wBin dLe wa wb) := de_cmp (opr_I0 op_le) (sn_I fun _ _ _ _ => .bl _) ha hb (nomark _)
theorem de_gt (ha : DE X C W a wa) (hb : DE X C W b wb) : DE X C W (.Compare a [.Gt] [b] pos) (wBin dGt wa wb) := de_cmp (opr_I0 op_gt) (sn_I fun _ _ _ _ => .bl _) ha hb (nomark _)
theorem de_ge (ha : DE X C W a wa) (hb : DE X C W b wb) : DE X C W (.Compare a [.GtE] [b] pos) (wBin dGe wa wb) := de_cmp (opr_I0 op_ge) (sn_I fun _ _ _ _ => .bl _) ha hb (nomark _)
/-- + of numbers, tuples, lists -/
def dAdd : D → D → Mem → RD → Prop := fun x y μ R => match x, y with
  | .int i, .int j => R (.int (i + j)) μ
  | .tup a, .tup b => a.length + b.length ≤ big ∧ R (.tup (a ++ b)) μ
  | .lst a, .lst b => a.length + b.length ≤ big ∧ R (.lst (a ++ b)) μ
  | _, _ => False
theorem sn_add : SndOp C (fun x y H Q => rI0 (fun i j => .int (i + j)) x y H Q ∨ rCatF C.K x y H Q ∨ rCat x y H Q) dAdd := by
  intro x y v u α σ H Γ μ R Q r ix iy w k
  unfold dAdd at w
  split at w
  · cases ix
    cases iy
    exact .inl ⟨_, _, rfl, rfl, k _ _ _ _ _ w r Mv.refl (.int _)⟩
  · rename_i a b
    cases ix with
    | tup h1 q1 =>
      cases iy with
      | tup h2 q2 =>
        have l1 := q1.length
        have l2 := q2.length
        refine .inr (.inl ⟨_, _, _, _, rfl, rfl, gk_ex.t h1.sq, gk_ex.t h2.sq, big_ok (by omega), fun e => ?_, fun _ e => ?_, fun _ _ p ob hp ho => ?_⟩)
        · subst e
          cases q1
          exact k _ _ _ _ _ w.2 r Mv.refl (.tup h2 q2)
        · subst e
          cases q2
          refine k _ _ _ _ _ w.2 r Mv.refl ?_
          rw [List.append_nil]
          exact .tup h1 q1
        · obtain ⟨r2, m2, i2⟩ := r.tup hp ho (q1.append q2)
          exact k _ _ _ _ _ w.2 r2 m2 i2
  · rename_i a b
    cases ix with
    | lst h1 q1 =>
      cases iy with
      | lst h2 q2 =>
        have l1 := q1.length
        have l2 := q2.length
        refine .inr (.inr ⟨_, _, _, _, rfl, rfl, gk_ex _ _ h1, gk_ex _ _ h2, big_ok (by omega), fun p hp => ?_⟩)
        obtain ⟨r2, m2, i2⟩ := r.lst hp (q1.append q2)
        exact k _ _ _ _ _ w.2 r2 m2 i2
  · exact w.elim
theorem de_add (hK : X.K = C.K) (ha : DE X C W a wa) (hb : DE X C W b wb) : DE X C W (.BinOp a .Add b pos) (wBin dAdd wa wb) :=
  de_op (opr_or op_add (opr_or (by have h := op_catF (X := X); rw [hK] at h; exact h) op_cat)) sn_add ha hb

/-! ### == of data -/
mutual
def D.py : D → PyData
  | .non => .none
  | .bl b => .bool b
  | .int i => .int i
  | .str x => .str x
  | .tup ds => .tuple (pys ds)
  | .lst ds => .list (pys ds)
  | _ => .none
def pys : List D → List PyData
  | [] => []
  | d :: ds => d.py :: pys ds
end
mutual
def D.isPy : D → Bool
  | .non => true
  | .bl _ => true
  | .int _ => true
  | .str _ => true
  | .tup ds => isPys ds
  | .lst ds => isPys ds
  | _ => false
def isPys : List D → Bool
  | [] => true
  | d :: ds => d.isPy && isPys ds
end
mutual
theorem Is.dp {K : PySem.W.Frag} {S : Sts} {α : List Addr} {H : Hp} : ∀ (d : D) (v : V), Is K S α H d v → d.isPy = true → Dp K H v d.py
  | .non, v, h, q => by cases h; exact .non
  | .bl b, v, h, q => by cases h; exact .bl b
  | .int i, v, h, q => by cases h; exact .int i
  | .str x, v, h, q => by cases h; exact .str x
  | .tup ds, v, h, q => by
    cases h with
    | tup h r => exact .tup h.sq (Iss.dp ds _ r q)
  | .lst ds, v, h, q => by
    cases h with
    | lst h r => exact .lst (SqL.of h) (Iss.dp ds _ r q)
  | .dk _ _, v, h, q => by cases q
  | .dt _ _, v, h, q => by cases q
  | .scr _, v, h, q => by cases q
  | .ty _, v, h, q => by cases q
  | .own _, v, h, q => by cases q
  | .exc _, v, h, q => by cases q
  | .mt _, v, h, q => by cases q
  | .st, v, h, q => by cases q
theorem Iss.dp {K : PySem.W.Frag} {S : Sts} {α : List Addr} {H : Hp} : ∀ (ds : List D) (vs : List V), Iss K S α H ds vs → isPys ds = true → DpAll K H vs (pys ds)
  | [], vs, h, q => by cases h; exact .nil
  | d :: ds, vs, h, q => by
    cases h with
    | cons h r =>
      have q : (d.isPy && isPys ds) = true := q
      rw [Bool.and_eq_true] at q
      exact .cons (Is.dp d _ h q.1) (Iss.dp ds _ r q.2)
end
def eqOk (d : D) : Bool := d.isPy && SeqAt.shaped d.py
def deq (x y : D) : Bool := PyData.eqv x.py y.py
def dEq : D → D → Mem → RD → Prop := fun x y μ R => (eqOk (res x μ) = true ∧ eqOk (res y μ) = true) ∧ R (.bl (deq (res x μ) (res y μ))) μ
def dNe : D → D → Mem → RD → Prop := fun x y μ R => (eqOk (res x μ) = true ∧ eqOk (res y μ) = true) ∧ R (.bl (!deq (res x μ) (res y μ))) μ
theorem eqOk_and {d : D} (h : eqOk d = true) : d.isPy = true ∧ SeqAt.shaped d.py = true := by
  unfold eqOk at h
  rw [Bool.and_eq_true] at h
  exact h
theorem sn_eq : SndOp C (rEqD C.K) dEq := by
  intro x y v u α σ H Γ μ R Q r ix iy ⟨⟨o1, o2⟩, w⟩ k
  obtain ⟨p1, s1⟩ := eqOk_and o1
  obtain ⟨p2, s2⟩ := eqOk_and o2
  exact ⟨_, _, Is.dp _ _ (r.res ix) p1, Is.dp _ _ (r.res iy) p2, s1, s2, k _ _ _ _ _ w r Mv.refl (.bl _)⟩
theorem sn_ne : SndOp C (rNeD C.K) dNe := by
  intro x y v u α σ H Γ μ R Q r ix iy ⟨⟨o1, o2⟩, w⟩ k
  obtain ⟨p1, s1⟩ := eqOk_and o1
  obtain ⟨p2, s2⟩ := eqOk_and o2
  exact ⟨_, _, Is.dp _ _ (r.res ix) p1, Is.dp _ _ (r.res iy) p2, s1, s2, k _ _ _ _ _ w r Mv.refl (.bl _)⟩
theorem de_eq (hK : X.K = C.K) (hu : X.A.units + 64 < cLine) (ha : DE X C W a wa) (hb : DE X C W b wb) : DE X C W (.Compare a [.Eq] [b] pos) (wBin dEq wa wb) :=
  de_cmp (by have h := op_eqD (X := X) hu; rw [hK] at h; exact h) sn_eq ha hb (nomark _)
theorem de_ne (hK : X.K = C.K) (hu : X.A.units + 64 < cLine) (ha : DE X C W a wa) (hb : DE X C W b wb) : DE X C W (.Compare a [.NotEq] [b] pos) (wBin dNe wa wb) :=
  de_cmp (by have h := op_neD (X := X) hu; rw [hK] at h; exact h) sn_ne ha hb (nomark _)

/-! ### in, of flat things -/
def flatD : D → Bool
  | .non => true
  | .bl _ => true
  | .int _ => true
  | .str _ => true
  | _ => false
theorem Is.flat {K : PySem.W.Frag} {S : Sts} {G : Hp} (h : Is K S α G d v) (f : flatD d = true) : flatV v = true := by
  cases h <;> first | rfl | cases f
theorem Iss.flat {K : PySem.W.Frag} {S : Sts} {G : Hp} : ∀ {ds : List D} {vs : List V}, Iss K S α G ds vs → ds.all flatD = true → vs.all flatV = true
  | _, _, .nil, _ => rfl
  | _, _, .cons h r, q => by
    rw [List.all_cons, Bool.and_eq_true] at q
    rw [List.all_cons, Is.flat h q.1, Iss.flat r q.2]
    rfl
theorem deq_flat {K : PySem.W.Frag} {S : Sts} {G : Hp} (h1 : Is K S α G x v) (h2 : Is K S α G y u) (f1 : flatD x = true) (f2 : flatD y = true) : eqV v u = deq x y := by
  cases h1 <;> first | (cases f1; done) | skip
  all_goals (cases h2 <;> first | (cases f2; done) | skip)
  all_goals first | rfl | (unfold deq; rfl)
theorem inV_of {K : PySem.W.Frag} {S : Sts} {G : Hp} (h1 : Is K S α G x v) (f1 : flatD x = true) : ∀ {ds : List D} {vs : List V}, Iss K S α G ds vs → ds.all flatD = true → inV v vs = ds.any fun z => deq z x
  | _, _, .nil, _ => rfl
  | d :: ds, w :: ws, .cons h r, q => by
    rw [List.all_cons, Bool.and_eq_true] at q
    show (eqV w v || inV v ws) = _
    rw [List.any_cons, deq_flat h h1 q.1 f1, inV_of h1 f1 r q.2]
def dIn (neg : Bool) : D → D → Mem → RD → Prop := fun x y μ R => match items y μ with
  | some ds => (flatD x = true ∧ ds.all flatD = true) ∧ R (.bl (if neg then !(ds.any fun z => deq z x) else ds.any fun z => deq z x)) μ
  | _ => False
theorem sn_in {neg : Bool} : SndOp C (rIn C.K neg) (dIn neg) := by
  intro x y v u α σ H Γ μ R Q r ix iy w k
  unfold dIn at w
  split at w
  · rename_i ds hi
    obtain ⟨⟨f1, f2⟩, w⟩ := w
    obtain ⟨p, xs, rfl, hs, q⟩ := r.items iy hi
    refine ⟨p, xs, rfl, hs, ix.flat f1, q.flat f2, ?_⟩
    rw [inV_of ix f1 q f2]
    exact k _ _ _ _ _ w r Mv.refl (.bl _)
  · exact w.elim
theorem de_in (hK : X.K = C.K) (ha : DE X C W a wa) (hb : DE X C W b wb) (hm : behindInMarks .In b = false) : DE X C W (.Compare a [.In] [b] pos) (wBin (dIn false) wa wb) :=
  de_cmp (by have h := op_in_seq (X := X); rw [hK] at h; exact h) sn_in ha hb hm
theorem de_notin (hK : X.K = C.K) (ha : DE X C W a wa) (hb : DE X C W b wb) (hm : behindInMarks .NotIn b = false) : DE X C W (.Compare a [.NotIn] [b] pos) (wBin (dIn true) wa wb) :=
  de_cmp (by have h := op_notIn_seq (X := X); rw [hK] at h; exact h) sn_in ha hb hm

/-! ### is None -/
def dIsN : D → D → Mem → RD → Prop := fun x y μ R => match y with
  | .non => R (.bl (match x with | .non => true | _ => false)) μ
  | _ => False
def dNotN : D → D → Mem → RD → Prop := fun x y μ R => match y with
  | .non => R (.bl (match x with | .non => false | _ => true)) μ
  | _ => False
theorem is_non {K : PySem.W.Frag} {S : Sts} {G : Hp} (h : Is K S α G x v) : decide (v = V.non) = (match x with | .non => true | _ => false) := by
  cases h <;> rfl
theorem not_non {K : PySem.W.Frag} {S : Sts} {G : Hp} (h : Is K S α G x v) : (!decide (v = V.non)) = (match x with | .non => false | _ => true) := by
  cases h <;> rfl

/-! ### subscripts -/
theorem atI_get {ds : List D} {vs : List V} {i : Int} {d : D} {K : PySem.W.Frag} {S : Sts} {G : Hp} (h : Iss K S α G ds vs) (e : atI ds i = some d) : ∃ v, atI vs i = some v ∧ Is K S α G d v := by
  unfold atI at e ⊢
  rw [← h.length]
  cases q : ixN ds.length i with
  | none => rw [q] at e; cases e
  | some j =>
    rw [q] at e
    exact h.get e
def dIx : D → D → Mem → RD → Prop := fun x y μ R => match items x μ, y with
  | some ds, .int i => match atI ds i with
    | some d => R d μ
    | none => False
  | _, _ => False
theorem sn_ix : SndOp C (rIx C.K) dIx := by
  intro x y v u α σ H Γ μ R Q r ix iy w k
  unfold dIx at w
  split at w
  · rename_i ds i hi
    split at w
    · rename_i d hd
      obtain ⟨p, xs, rfl, hs, q⟩ := r.items ix hi
      obtain ⟨z, h1, h2⟩ := atI_get q hd
      cases iy
      rcases hs with hs | hs
      · exact .inl ⟨p, xs, _, z, rfl, rfl, hs, h1, k _ _ _ _ _ w r Mv.refl h2⟩
      · exact .inr (.inl ⟨p, xs, _, z, rfl, rfl, hs, h1, k _ _ _ _ _ w r Mv.refl h2⟩)
    · exact w.elim
  · exact w.elim
theorem de_item (hK : X.K = C.K) (ha : DE X C W a wa) (hb : DE X C W b wb) (hs : PlainIx b := by exact fun _ _ => rfl) : DE X C W (.Subscript a b pos) (wBin dIx wa wb) :=
  de_ix (by have h := ix_seq (X := X); rw [hK] at h; exact h) sn_ix ha hb hs
end
end TC

set_option Elab.async false
set_option linter.all false
set_option maxRecDepth 100000
set_option maxHeartbeats 2000000
namespace TC
open PySem PySem.Spec PyProof.Rows L2
/-- what an iterator gives, while G stands -/
structure Wk (J : It) (xs : List V) (G : Hp → Prop) : Prop where
  go : ∀ i H, G H → i < xs.length → J.go i H
  yl : ∀ i H x H', G H → i < xs.length → J.yld i H x H' → H' = H ∧ xs[i]? = some x
  stop : ∀ i H, G H → i = xs.length → J.stop i H
theorem wk_list {K : PySem.W.Frag} {a : Addr} {xs : List V} : Wk (Itl K a) xs (fun H => SqL K H a xs) where
  go := fun i H h l => ⟨xs, xs[i], h, by simp [l]⟩
  yl := fun i H x H' h _ y => ⟨y.1, y.2 xs h⟩
  stop := fun i H h e => ⟨xs, h, by omega⟩
theorem wk_tup {K : PySem.W.Frag} {a : Addr} {xs : List V} : Wk (Itt K a) xs (fun H => SqT K H a xs) where
  go := fun i H h l => ⟨xs, xs[i], h, by simp [l]⟩
  yl := fun i H x H' h _ y => ⟨y.1, y.2 xs h⟩
  stop := fun i H h e => ⟨xs, h, by omega⟩
theorem rgV_get {lo hi : Int} {i : Nat} (h : i < (hi - lo).toNat) : (rgV lo hi)[i]? = some (.int (lo + (i : Int))) := by
  unfold rgV
  rw [List.getElem?_map, List.getElem?_range h]
  rfl
theorem wk_rng {lo hi : Int} : Wk (Itr lo (hi - lo).toNat) (rgV lo hi) (fun _ => True) where
  go := fun i H _ l => by rw [rgV_length] at l; exact l
  yl := fun i H x H' _ l y => by
    obtain ⟨e, y⟩ := y
    subst y
    rw [rgV_length] at l
    exact ⟨e, rgV_get l⟩
  stop := fun i H _ e => by rw [rgV_length] at e; exact Nat.le_of_eq e.symm
section
variable {J : It} {xs : List V} {G : Hp → Prop}
theorem for_wk (k : Wk J xs G) {g : TG} {tb : TS} {D : Ends} {σ : L2.St} {H : Hp} (Pv : Nat → L2.St → Hp → Prop) (h0 : Pv 0 σ H) (hl : ∀ i σ H, Pv i σ H → G H)
    (hs : ∀ i x σ H, xs[i]? = some x → Pv i σ H → g x σ H fun σ2 H2 => tb { D with nx := Pv (i + 1), ct := Pv (i + 1), bk := D.nx } σ2 H2) (hd : ∀ σ H, Pv xs.length σ H → D.nx σ H) :
    ∃ W : Nat → Nat → L2.St → Hp → Prop, (∃ m, W 0 m σ H) ∧ ∀ i m σ H, W i m σ H →
      (J.stop i H ∧ D.nx σ H) ∨ (J.go i H ∧ ∃ N : L2.St → Hp → Prop, (∀ σ' H', N σ' H' → ∃ m', m' < m ∧ W (i + 1) m' σ' H') ∧ ∀ x H', J.yld i H x H' → g x σ H' fun σ2 H2 => tb { D with nx := N, ct := N, bk := D.nx } σ2 H2) := by
  refine ⟨fun i m σ H => m = xs.length - i ∧ i ≤ xs.length ∧ Pv i σ H, ⟨xs.length, by simp, Nat.zero_le _, h0⟩, ?_⟩
  rintro i m σ H ⟨rfl, hi, p⟩
  have q := hl i σ H p
  by_cases hlt : i < xs.length
  · refine .inr ⟨k.go i H q hlt, Pv (i + 1), fun σ' H' p' => ⟨xs.length - (i + 1), by omega, rfl, hlt, p'⟩, fun x H' y => ?_⟩
    obtain ⟨e, y2⟩ := k.yl i H x H' q hlt y
    subst e
    exact hs i x σ _ y2 p
  · have e : i = xs.length := by omega
    subst e
    exact .inl ⟨k.stop _ H q rfl, hd σ H p⟩
theorem lc_wk (k : Wk J xs G) {g : TG} {tt : TT} {te : TE} {vs : List Nat} {σ : L2.St} {H1 : Hp} {D : Addr} {Qd : Hp → Prop} (Pv : Nat → Hp → Prop) (h0 : Pv 0 (upd H1 D (.lst []))) (hl : ∀ i H, Pv i H → G H)
    (hs : ∀ i x H, xs[i]? = some x → Pv i H → g x (wipe σ vs) H fun σ2 H2 => wipe σ2 vs = wipe σ vs ∧ tt σ2 H2 fun b H3 =>
      if b = true then te σ2 H3 fun y H4 => ∃ acc, H4 D = some (.lst acc) ∧ acc.length < sizeLine ∧ Pv (i + 1) (upd H4 D (.lst (acc ++ [y]))) else Pv (i + 1) H3) (hd : ∀ H, Pv xs.length H → Qd H) :
    ∃ W : Nat → Nat → Hp → Prop, (∃ m, W 0 m (upd H1 D (.lst []))) ∧ ∀ i m H, W i m H →
      (J.stop i H ∧ Qd H) ∨ (J.go i H ∧ ∃ Nx : Hp → Prop, (∀ H', Nx H' → ∃ m', m' < m ∧ W (i + 1) m' H') ∧ ∀ x H', J.yld i H x H' → g x (wipe σ vs) H' fun σ2 H2 => wipe σ2 vs = wipe σ vs ∧ tt σ2 H2 fun b H3 =>
        if b = true then te σ2 H3 fun y H4 => ∃ acc, H4 D = some (.lst acc) ∧ acc.length < sizeLine ∧ Nx (upd H4 D (.lst (acc ++ [y]))) else Nx H3) := by
  refine ⟨fun i m H => m = xs.length - i ∧ i ≤ xs.length ∧ Pv i H, ⟨xs.length, by simp, Nat.zero_le _, h0⟩, ?_⟩
  rintro i m H ⟨rfl, hi, p⟩
  have q := hl i H p
  by_cases hlt : i < xs.length
  · refine .inr ⟨k.go i H q hlt, Pv (i + 1), fun H' p' => ⟨xs.length - (i + 1), by omega, rfl, hlt, p'⟩, fun x H' y => ?_⟩
    obtain ⟨e, y2⟩ := k.yl i H x H' q hlt y
    subst e
    exact hs i x _ y2 p
  · have e : i = xs.length := by omega
    subst e
    exact .inl ⟨k.stop _ H q rfl, hd H p⟩
end
/-! ### what is walked -/
def itemsI (d : D) : Option (List D) := match d with
  | .tup ds => some ds
  | .lst ds => some ds
  | .scr ns => some (ns.map .int)
  | _ => none
def rgD (lo hi : Int) : List D := (List.range (hi - lo).toNat).map fun i => D.int (lo + (i : Nat))
theorem rgD_is {K : PySem.W.Frag} {S : Sts} {α : List Addr} {G : Hp} {lo hi : Int} : Iss K S α G (rgD lo hi) (rgV lo hi) := by
  have e1 : rgD lo hi = ((List.range (hi - lo).toNat).map fun i => (lo + (i : Nat) : Int)).map D.int := by unfold rgD; rw [List.map_map]; rfl
  have e2 : rgV lo hi = ((List.range (hi - lo).toNat).map fun i => (lo + (i : Nat) : Int)).map V.int := by unfold rgV; rw [List.map_map]; rfl
  rw [e1, e2]
  exact Iss.of_ints _
def canI (C : Cfg) (W : WX) (w : DA) : TI := fun σ H R => ∃ α Γ μ Rd Z, Rl C α σ H Γ μ ∧ w Γ μ Rd Z ∧
  (∀ ds xs J G α' μ' H', Rd ds μ' → Rl C α' σ H' Γ μ' → Mv C α μ H α' μ' H' → Iss C.K C.S α' (gk C α' μ' H') ds xs → Wk J xs G → (∀ α2 μ2 H2, Mv C α' μ' H' α2 μ2 H2 → G H2) → R J H') ∧ Kz C W α H μ Z
def DI (X : Cx) (C : Cfg) (W : WX) (tg e : Expr) (w : DA) : Prop := PI X tg e (canI C W w)
theorem _root_.L2.PI.imp {X : Cx} {tg e : Expr} {t t' : TI} (h : PI X tg e t) (k : ∀ σ H Q, t' σ H Q → t σ H Q) : PI X tg e t' := ⟨fun pins s σ H Q I q => h.run pins s σ H Q I (k _ _ _ q)⟩
section
variable {X : Cx} {C : Cfg} {W : WX} {tg a b e l : Expr} {wa wb we : DX} {pos p : Pos}
def iAny (K : PySem.W.Frag) (tl : TE) : TI := fun σ H R => tl σ H fun x H1 => ∃ a, x = .ref a ∧ (((∃ xs, SqL K H1 a xs) ∧ R (Itl K a) H1) ∨ ((∃ xs, SqT K H1 a xs) ∧ R (Itt K a) H1))
theorem pi_any {tl : TE} (hl : PE X l tl) : PI X tg l (iAny X.K tl) := by
  refine ⟨fun pins s σ H R I h => ?_⟩
  refine thn (hl.run pins s σ H _ I h) fun v s1 ⟨x, H1, I1, r1, q1⟩ => ?_
  obtain ⟨a, ea, q1⟩ := q1
  subst ea
  cases r1
  have fp : ∀ b ∈ [s1.heap.objs.size], FpOk X pins H1 b := fun b hb => by
    have e : b = s1.heap.objs.size := by simpa using hb
    subst e
    exact I1.fpOk (Nat.le_refl _) (I1.hok.fresh (Nat.le_refl _))
  rcases q1 with ⟨⟨xs, hq⟩, q⟩ | ⟨⟨xs, hq⟩, q⟩
  · obtain ⟨its, rv, p, hz⟩ := I1.list hq
    refine wpAny_pyIter_list p.isList ?_
    exact ⟨s1.heap.objs.size, [s1.heap.objs.size], _, _, H1, rfl, I1.kept (t' := s1.toks) fun b o e => Heap.get?_push_of_some _ e, turn_list a _, ⟨_, Heap.get?_push_size _ rfl, rfl, rfl⟩, fp, q⟩
  · obtain ⟨its, rv, p, hz⟩ := I1.tuple hq
    refine wpAny_pyIter_tuple (show s1.heap.IsTuple a its.toArray from p) ?_
    exact ⟨s1.heap.objs.size, [s1.heap.objs.size], _, _, H1, rfl, I1.kept (t' := s1.toks) fun b o e => Heap.get?_push_of_some _ e, turn_tuple a _, ⟨_, Heap.get?_push_size _ rfl, rfl, rfl⟩, fp, q⟩
def wIt (w : DX) : DA := fun Γ μ R Z => w Γ μ (fun d μ1 => match itemsI d with
  | some ds => R ds μ1
  | none => False) Z
theorem di_val (hK : X.K = C.K) (h : DE X C W l we) : DI X C W tg l (wIt we) := (pi_any h).imp fun σ H Q ⟨α, Γ, μ, R, Z, r, w, k, z⟩ => by
  rw [hK]
  refine ⟨α, Γ, μ, _, Z, r, w, fun d v α1 μ1 H1 w1 r1 m1 i1 => ?_, z⟩
  cases i1 with
  | tup h q => exact ⟨_, rfl, .inr ⟨⟨_, gk_ex.t h.sq⟩, k _ _ _ _ α1 μ1 H1 w1 r1 m1 q wk_tup fun α2 μ2 H2 m2 => gk_ex.t (m2.ex.t h.sq)⟩⟩
  | lst h q => exact ⟨_, rfl, .inl ⟨⟨_, SqL.of (gk_ex _ _ h)⟩, k _ _ _ _ α1 μ1 H1 w1 r1 m1 q wk_list fun α2 μ2 H2 m2 => SqL.of (gk_ex _ _ (m2.ex _ _ h))⟩⟩
  | scr h => exact ⟨_, rfl, .inl ⟨⟨_, gk_ex.l h⟩, k _ _ _ _ α1 μ1 H1 w1 r1 m1 (Iss.of_ints _) wk_list fun α2 μ2 H2 m2 => gk_ex.l (m2.ex.l h)⟩⟩
  | _ => exact w1.elim
/-! ### args -/
def wNil : DA := fun _ μ R _ => R [] μ
def wCons (wa : DX) (wr : DA) : DA := fun Γ μ R Z => wa Γ μ (fun d μ1 => wr Γ μ1 (fun ds μ2 => R (d :: ds) μ2) Z) Z
theorem da_nil : DAs X C W [] wNil := pa_nil.imp fun σ H Q ⟨α, Γ, μ, R, Z, r, w, k, z⟩ => k [] [] α μ H w r Mv.refl .nil
theorem da_cons {es : List Expr} {wr : DA} (ha : DE X C W e wa) (hr : DAs X C W es wr) (hs : starEach (e :: es) X.env = (false, eval e X.env) :: starEach es X.env := by rfl) : DAs X C W (e :: es) (wCons wa wr) :=
  (pa_cons ha hr hs).imp fun σ H Q ⟨α, Γ, μ, R, Z, r, w, k, z⟩ => by
    refine ⟨α, Γ, μ, _, Z, r, w, fun d v α1 μ1 H1 w1 r1 m1 i1 => ?_, z⟩
    refine ⟨α1, Γ, μ1, _, Z, r1, w1, fun ds vs α2 μ2 H2 w2 r2 m2 i2 => ?_, z.mv m1⟩
    exact k (d :: ds) (v :: vs) α2 μ2 H2 w2 r2 (m1.trans m2) (.cons (m2.is i1) i2)
theorem one_int {α : List Addr} {K : PySem.W.Frag} {S : Sts} {G : Hp} {d : List D} {vs : List V} (h : Iss K S α G d vs) {n : Int} (e : d = [.int n]) : vs = [.int n] := by
  subst e
  cases h with
  | cons h r => cases r; cases h; rfl
def rgOk (n : Int) : Prop := -1000000 ≤ n ∧ n ≤ 1000000
def wRng1 (wa : DA) : DA := fun Γ μ R Z => wa Γ μ (fun ds μ1 => match ds with
  | [.int n] => rgOk n ∧ R (rgD 0 n) μ1
  | _ => False) Z
theorem di_rng1 {a : Expr} {wa : DA} (hg : Gl X "range") (hm : X.mg "range" = none) (ha : DAs X C W [a] wa) (hs : starEach [a] X.env = [(false, eval a X.env)] := by rfl) : DI X C W tg (.Call (.Name "range" p) [a] [] pos) (wRng1 wa) :=
  (pi_range1 hg hm ha hs).imp fun σ H Q ⟨α, Γ, μ, R, Z, r, w, k, z⟩ => by
    refine ⟨α, Γ, μ, _, Z, r, w, fun ds vs α1 μ1 H1 w1 r1 m1 i1 => ?_, z⟩
    split at w1
    · rename_i n
      obtain ⟨⟨b1, b2⟩, w1⟩ := w1
      have e := one_int i1 rfl
      subst e
      refine ⟨n, rfl, by omega, by omega, ?_⟩
      have q := k (rgD 0 n) (rgV 0 n) (Itr 0 (n - 0).toNat) _ α1 μ1 H1 w1 r1 m1 rgD_is wk_rng fun _ _ _ _ => trivial
      rw [Int.sub_zero] at q
      exact q
    · exact w1.elim
def wRng2 (wa : DA) : DA := fun Γ μ R Z => wa Γ μ (fun ds μ1 => match ds with
  | [.int m, .int n] => (rgOk m ∧ rgOk n) ∧ R (rgD m n) μ1
  | _ => False) Z
theorem di_rng2 {a b : Expr} {wa : DA} (hg : Gl X "range") (hm : X.mg "range" = none) (ha : DAs X C W [a, b] wa) (hs : starEach [a, b] X.env = [(false, eval a X.env), (false, eval b X.env)] := by rfl) (hs2 : starEach [b] X.env = [(false, eval b X.env)] := by rfl) :
    DI X C W tg (.Call (.Name "range" p) [a, b] [] pos) (wRng2 wa) :=
  (pi_range2 hg hm ha hs hs2).imp fun σ H Q ⟨α, Γ, μ, R, Z, r, w, k, z⟩ => by
    refine ⟨α, Γ, μ, _, Z, r, w, fun ds vs α1 μ1 H1 w1 r1 m1 i1 => ?_, z⟩
    split at w1
    · rename_i m n
      obtain ⟨⟨⟨b1, b2⟩, b3, b4⟩, w1⟩ := w1
      cases i1 with
      | cons h1 t1 =>
        cases t1 with
        | cons h2 t2 =>
          cases t2
          cases h1
          cases h2
          exact ⟨m, n, rfl, ⟨by omega, by omega, by omega, by omega⟩, k (rgD m n) (rgV m n) (Itr m (n - m).toNat) _ α1 μ1 H1 w1 r1 m1 rgD_is wk_rng fun _ _ _ _ => trivial⟩
    · exact w1.elim
end
end TC

set_option Elab.async false
set_option linter.all false
set_option maxRecDepth 100000
set_option maxHeartbeats 2000000
namespace TC
open PySem PySem.Spec PyProof.Rows L2
section
variable {X : Cx} {C : Cfg} {W : WX} {a b c e : Expr} {es : List Expr} {st : Stmt} {ss s1 s2 : List Stmt} {wa wb wc we : DX} {wt : DT} {ws wr w1 w2 : DS} {pos : Pos}
def wNext : DS := fun Γ μ P => P.nx Γ μ
def wSeq (ws wr : DS) : DS := fun Γ μ P => ws Γ μ ⟨fun Γ' μ' => wr Γ' μ' P, P.rt, P.bk, P.ct, P.rz⟩
theorem dss_nil : DSs X C W [] wNext := pss_nil.imp fun D σ H ⟨α, Γ, μ, P, r, w, n, _⟩ => n α Γ μ σ H w r Mv.refl
theorem dss_cons (hs : DSt X C W st ws) (hr : DSs X C W ss wr) : DSs X C W (st :: ss) (wSeq ws wr) := (pss_cons hs hr).imp fun D σ H ⟨α, Γ, μ, P, r, w, n, t, b, c, z⟩ =>
  ⟨α, Γ, μ, _, r, w, fun α' Γ' μ' σ' H' w' r' m' => ⟨α', Γ', μ', P, r', w', fun α2 Γ2 μ2 σ2 H2 w2 r2 m2 => n α2 Γ2 μ2 σ2 H2 w2 r2 (m'.trans m2), fun d v α2 Γ2 μ2 σ2 H2 w2 r2 m2 i2 => t d v α2 Γ2 μ2 σ2 H2 w2 r2 (m'.trans m2) i2,
    fun α2 Γ2 μ2 σ2 H2 w2 r2 m2 => b α2 Γ2 μ2 σ2 H2 w2 r2 (m'.trans m2), fun α2 Γ2 μ2 σ2 H2 w2 r2 m2 => c α2 Γ2 μ2 σ2 H2 w2 r2 (m'.trans m2), z.mv m'⟩, t, b, c, z⟩
theorem dss_one (hs : DSt X C W st ws) : DSs X C W [st] (wSeq ws wNext) := dss_cons hs dss_nil
def wRet (we : DX) : DS := fun Γ μ P => we Γ μ P.rt P.rz
theorem ds_ret (he : DE X C W e we) : DSt X C W (.Return (some e) pos) (wRet we) := (ps_ret he).imp fun D σ H ⟨α, Γ, μ, P, r, w, n, t, b, c, z⟩ =>
  ⟨α, Γ, μ, _, _, r, w, fun d v α' μ' H' w' r' m' i' => t d v α' Γ μ' σ H' w' r' m' i', z⟩
def wDrop (we : DX) : DS := fun Γ μ P => we Γ μ (fun _ μ' => P.nx Γ μ') P.rz
theorem ds_expr (h : PS X st (tDrop (canE C W we))) : DSt X C W st (wDrop we) := h.imp fun D σ H ⟨α, Γ, μ, P, r, w, n, t, b, c, z⟩ =>
  ⟨α, Γ, μ, _, _, r, w, fun d v α' μ' H' w' r' m' i' => n α' Γ μ' σ H' w' r' m', z⟩
def wAsg (j : Nat) (we : DX) : DS := fun Γ μ P => we Γ μ (fun d μ' => P.nx (Γ.set j (some d)) μ') P.rz
theorem ds_asg {j : Nat} (h : PS X st (tAsg (canE C W we) (gName j))) : DSt X C W st (wAsg j we) := h.imp fun D σ H ⟨α, Γ, μ, P, r, w, n, t, b, c, z⟩ =>
  ⟨α, Γ, μ, _, _, r, w, fun d v α' μ' H' w' r' m' i' => n α' _ μ' _ H' w' (r'.setv i') m', z⟩
def wPar (i j : Nat) (wa : DA) : DS := fun Γ μ P => wa Γ μ (fun ds μ' => match ds with
  | [d, e] => P.nx ((Γ.set i (some d)).set j (some e)) μ'
  | _ => False) P.rz
theorem ds_par {i j : Nat} {wa : DA} (h : PS X st (tPar i j (canA C W wa))) : DSt X C W st (wPar i j wa) := h.imp fun D σ H ⟨α, Γ, μ, P, r, w, n, t, b, c, z⟩ =>
  ⟨α, Γ, μ, _, _, r, w, fun ds vs α' μ' H' w' r' m' i' => by
    split at w'
    · cases i' with
      | cons h1 t1 =>
        cases t1 with
        | cons h2 t2 =>
          cases t2
          exact ⟨_, _, rfl, n α' _ μ' _ H' w' ((r'.setv h1).setv h2) m'⟩
    · exact w'.elim, z⟩
def wPar3 (i j l : Nat) (wa : DA) : DS := fun Γ μ P => wa Γ μ (fun ds μ' => match ds with
  | [d, e, f] => P.nx (((Γ.set i (some d)).set j (some e)).set l (some f)) μ'
  | _ => False) P.rz
theorem ds_par3 {i j l : Nat} {wa : DA} (h : PS X st (tPar3 i j l (canA C W wa))) : DSt X C W st (wPar3 i j l wa) := h.imp fun D σ H ⟨α, Γ, μ, P, r, w, n, t, b, c, z⟩ =>
  ⟨α, Γ, μ, _, _, r, w, fun ds vs α' μ' H' w' r' m' i' => by
    split at w'
    · cases i' with
      | cons h1 t1 =>
        cases t1 with
        | cons h2 t2 =>
          cases t2 with
          | cons h3 t3 =>
            cases t3
            exact ⟨_, _, _, rfl, n α' _ μ' _ H' w' (((r'.setv h1).setv h2).setv h3) m'⟩
    · exact w'.elim, z⟩
def wIf (wt : DT) (w1 w2 : DS) : DS := fun Γ μ P => wt Γ μ (fun b μ1 => if b = true then w1 Γ μ1 P else w2 Γ μ1 P) P.rz
theorem ds_if (hc : DTs X C W c wt) (h1 : DSs X C W s1 w1) (h2 : DSs X C W s2 w2) : DSt X C W (.If c s1 s2 pos) (wIf wt w1 w2) := (ps_if hc h1 h2).imp fun D σ H ⟨α, Γ, μ, P, r, w, n, t, b, c, z⟩ =>
  ⟨α, Γ, μ, _, _, r, w, fun k α' μ' H' w' r' m' => by
    have fin : ∀ {w : DS}, w Γ μ' P → canS C W w D σ H' := fun {w} w' => ⟨α', Γ, μ', P, r', w', fun α2 Γ2 μ2 σ2 H2 w2 r2 m2 => n α2 Γ2 μ2 σ2 H2 w2 r2 (m'.trans m2), fun d v α2 Γ2 μ2 σ2 H2 w2 r2 m2 i2 => t d v α2 Γ2 μ2 σ2 H2 w2 r2 (m'.trans m2) i2,
      fun α2 Γ2 μ2 σ2 H2 w2 r2 m2 => b α2 Γ2 μ2 σ2 H2 w2 r2 (m'.trans m2), fun α2 Γ2 μ2 σ2 H2 w2 r2 m2 => c α2 Γ2 μ2 σ2 H2 w2 r2 (m'.trans m2), z.mv m'⟩
    cases k with
    | true => exact fin w'
    | false => exact fin w', z⟩
def wBrk : DS := fun Γ μ P => P.bk Γ μ
def wCnt : DS := fun Γ μ P => P.ct Γ μ
theorem ds_break : DSt X C W (.Break pos) wBrk := ps_break.imp fun D σ H ⟨α, Γ, μ, P, r, w, n, t, b, c, z⟩ => b α Γ μ σ H w r Mv.refl
theorem ds_continue : DSt X C W (.Continue pos) wCnt := ps_continue.imp fun D σ H ⟨α, Γ, μ, P, r, w, n, t, b, c, z⟩ => c α Γ μ σ H w r Mv.refl
theorem ds_pass : DSt X C W (.Pass pos) wNext := ps_pass.imp fun D σ H ⟨α, Γ, μ, P, r, w, n, _⟩ => n α Γ μ σ H w r Mv.refl
/-! ### for -/
/-- a target -/
def DG (X : Cx) (C : Cfg) (tg : Expr) (g : TG) (tf : D → Gam → Option Gam) : Prop := PG X tg g ∧ ∀ α σ H Γ μ d v (Q : L2.St → Hp → Prop) Γ', Rl C α σ H Γ μ → Is C.K C.S α (gk C α μ H) d v → tf d Γ = some Γ' → (∀ σ', Rl C α σ' H Γ' μ → Q σ' H) → g v σ H Q
theorem dg_name {j : Nat} (h : PG X e (gName j)) : DG X C e (gName j) (fun d Γ => some (Γ.set j (some d))) := ⟨h, fun α σ H Γ μ d v Q Γ' r i e k => by
  cases e
  exact k _ (r.setv i)⟩
def wForL (tf : D → Gam → Option Gam) (body : DS) : List D → DS
  | [], Γ, μ, P => P.nx Γ μ
  | x :: xs, Γ, μ, P => match tf x Γ with
    | some Γ1 => body Γ1 μ ⟨fun Γ' μ' => wForL tf body xs Γ' μ' P, P.rt, P.nx, fun Γ' μ' => wForL tf body xs Γ' μ' P, P.rz⟩
    | none => False
def wFor (tf : D → Gam → Option Gam) (wi : DA) (body : DS) : DS := fun Γ μ P => wi Γ μ (fun ds μ1 => wForL tf body ds Γ μ1 P) P.rz
theorem ds_for {iter : Expr} {tg : Expr} {g : TG} {tf : D → Gam → Option Gam} {wi : DA} {body : List Stmt} {wb : DS} (hp : PassesOwn (model X.prog X.w) X.A X.env X.xe) (hc : X.calm = true) (hi : DI X C W tg iter wi) (hg : DG X C tg g tf) (hb : DSs X C W body wb)
    (hs : ∀ x, foldedSetIterable iter X.env x = pure x := by intro _; rfl) : DSt X C W (.For tg iter body [] pos) (wFor tf wi wb) := (ps_for hp hc hi hg.1 hb hs).imp fun D σ H ⟨α, Γ, μ, P, r, w, n, t, b, c, z⟩ => by
  refine ⟨α, Γ, μ, _, _, r, w, fun ds xs J G α1 μ1 H1 w1 r1 m1 i1 k1 g1 => ?_, z⟩
  refine for_wk k1 (fun i σ' H' => ∃ α' Γ' μ', Rl C α' σ' H' Γ' μ' ∧ Mv C α1 μ1 H1 α' μ' H' ∧ wForL tf wb (ds.drop i) Γ' μ' P) ⟨α1, Γ, μ1, r1, Mv.refl, w1⟩ (fun i σ' H' ⟨α', Γ', μ', _, m', _⟩ => g1 α' μ' H' m') ?_ ?_
  · rintro i x σ' H' hx ⟨α', Γ', μ', r', m', w'⟩
    obtain ⟨d, hd, id⟩ := i1.get' hx
    have e : ds.drop i = d :: ds.drop (i + 1) := by
      obtain ⟨hl, he⟩ := List.getElem?_eq_some_iff.mp hd
      rw [List.drop_eq_getElem_cons hl, he]
    rw [e] at w'
    have w' : (match tf d Γ' with | some Γ1 => wb Γ1 μ' ⟨fun Γ' μ' => wForL tf wb (ds.drop (i + 1)) Γ' μ' P, P.rt, P.nx, fun Γ' μ' => wForL tf wb (ds.drop (i + 1)) Γ' μ' P, P.rz⟩ | none => False) := w'
    split at w'
    · rename_i Γ1 ht
      refine hg.2 α' σ' H' Γ' μ' d x _ Γ1 r' (m'.is id) ht fun σ2 r2 => ?_
      refine ⟨α', Γ1, μ', _, r2, w', fun α3 Γ3 μ3 σ3 H3 w3 r3 m3 => ⟨α3, Γ3, μ3, r3, m'.trans m3, w3⟩, fun d v α3 Γ3 μ3 σ3 H3 w3 r3 m3 i3 => t d v α3 Γ3 μ3 σ3 H3 w3 r3 ((m1.trans m').trans m3) i3,
        fun α3 Γ3 μ3 σ3 H3 w3 r3 m3 => n α3 Γ3 μ3 σ3 H3 w3 r3 ((m1.trans m').trans m3), fun α3 Γ3 μ3 σ3 H3 w3 r3 m3 => ⟨α3, Γ3, μ3, r3, m'.trans m3, w3⟩, z.mv (m1.trans m')⟩
    · exact w'.elim
  · rintro σ' H' ⟨α', Γ', μ', r', m', w'⟩
    rw [← i1.length, List.drop_length] at w'
    exact n α' Γ' μ' σ' H' w' r' (m1.trans m')
def wWhile (wt : DT) (body : DS) : DS := fun Γ μ P => ∃ (I : Nat → Gam → Mem → Prop) (m0 : Nat), I m0 Γ μ ∧ ∀ m Γ μ, I m Γ μ → wt Γ μ (fun b μ1 => if b = true then
  body Γ μ1 ⟨fun Γ' μ' => ∃ m', m' < m ∧ I m' Γ' μ', P.rt, P.nx, fun Γ' μ' => ∃ m', m' < m ∧ I m' Γ' μ', P.rz⟩ else P.nx Γ μ1) P.rz
theorem ds_while {body : List Stmt} {wb : DS} (hp : PassesOwn (model X.prog X.w) X.A X.env X.xe) (hc : DTs X C W c wt) (hb : DSs X C W body wb) : DSt X C W (.While c body [] pos) (wWhile wt wb) := (ps_while hp hc hb).imp fun D σ H ⟨α, Γ, μ, P, r, w, n, t, b, c, z⟩ => by
  obtain ⟨I, m0, w0, turn⟩ := w
  refine ⟨fun m σ' H' => ∃ α' Γ' μ', Rl C α' σ' H' Γ' μ' ∧ Mv C α μ H α' μ' H' ∧ I m Γ' μ', ⟨m0, α, Γ, μ, r, Mv.refl, w0⟩, ?_⟩
  rintro m σ' H' ⟨α', Γ', μ', r', m', w'⟩
  refine ⟨α', Γ', μ', _, _, r', turn m Γ' μ' w', fun k α2 μ2 H2 w2 r2 m2 => ?_, z.mv m'⟩
  cases k with
  | true =>
    refine ⟨fun σ3 H3 => ∃ α3 Γ3 μ3, Rl C α3 σ3 H3 Γ3 μ3 ∧ Mv C α μ H α3 μ3 H3 ∧ ∃ m', m' < m ∧ I m' Γ3 μ3, fun σ3 H3 ⟨α3, Γ3, μ3, r3, m3, q, hq, i3⟩ => ⟨q, hq, α3, Γ3, μ3, r3, m3, i3⟩, ?_⟩
    exact ⟨α2, Γ', μ2, _, r2, w2, fun α3 Γ3 μ3 σ3 H3 w3 r3 m3 => ⟨α3, Γ3, μ3, r3, (m'.trans m2).trans m3, w3⟩, fun d v α3 Γ3 μ3 σ3 H3 w3 r3 m3 i3 => t d v α3 Γ3 μ3 σ3 H3 w3 r3 ((m'.trans m2).trans m3) i3,
        fun α3 Γ3 μ3 σ3 H3 w3 r3 m3 => n α3 Γ3 μ3 σ3 H3 w3 r3 ((m'.trans m2).trans m3), fun α3 Γ3 μ3 σ3 H3 w3 r3 m3 => ⟨α3, Γ3, μ3, r3, (m'.trans m2).trans m3, w3⟩, z.mv (m'.trans m2)⟩
  | false => exact n α2 Γ' μ2 σ' H2 w2 r2 (m'.trans m2)
/-! ### raise, try -/
def wRaise (cl : Addr) : DS := fun Γ μ P => P.rz cl Γ μ
theorem ds_raise {cl : Addr} (h : PS X st (fun _ σ H => W (.ref cl) none σ H)) : DSt X C W st (wRaise cl) := h.imp fun D σ H ⟨α, Γ, μ, P, r, w, n, t, b, c, z⟩ => z cl α Γ μ σ H w r Mv.refl
/-- try: body / except c as n (slot i): v (slot j) = n -/
def wTry (K : PySem.W.Frag) (c : Value) (i j : Nat) (body : DS) : DS := fun Γ μ P => body Γ μ ⟨P.nx, P.rt, P.bk, P.ct, fun cl Γ' μ' => (i < Γ'.length ∧ i ≠ j) ∧ (PySem.W.exmOne K (.ref cl) c = some true ∧ P.nx (((Γ'.set i (some (.exc cl))).set j (some (.exc cl))).set i none) μ' ∨
  PySem.W.exmOne K (.ref cl) c = some false ∧ P.rz cl Γ' μ')⟩
theorem ds_try {x n : Str} {c : Value} {i j : Nat} {body suite : List Stmt} {b₀ : Stmt} {np pos' : Pos} {wb : DS} (hK : X.K = C.K) (hs : X.stack = X.env :: X.outer) (hf : X.env.frame = some X.env.locals) (hN : X.N.Nodup) (hi : X.N[i]? = some n) (hln : X.env.kindOf n = some .local) (hex : X.ex = []) (hc : Names X x c) (tk : Takes X W)
    (hb : ∀ (W : WX) (pn : List (Addr × Obj)) (xe : Value → Shared → Prop), Takes (X.tr pn xe) W → PassesOwn (model X.prog X.w) X.A X.env xe → DSs (X.tr pn xe) C W body wb)
    (hsu : ∀ (a : Addr) (oe : Obj) (cls : Value) (d : Option Addr) (pn : List (Addr × Obj)), Zc cls d oe → (∃ vs, oe.data = .fields vs) → PSs (X.suite a ((a, oe) :: pn)) (b₀ :: suite) (tSeq (tAsg (tVar i) (gName j)) tNext)) :
    DSt X C W (.Try body [.ExceptHandler (some (.Name x np)) (some n) (b₀ :: suite) pos'] [] [] pos) (wTry C.K c i j wb) :=
  (ps_try_hold (tb := fun W => canS C W wb) (ts := fun _ _ _ => tSeq (tAsg (tVar i) (gName j)) tNext) (Wout := W) hs hf hN hi hln hex hc tk hb hsu).imp fun D σ H ⟨α, Γ, μ, P, r, w, n, t, b, cc, z⟩ => by
  refine ⟨α, Γ, μ, _, r, w, n, t, b, cc, fun cl α' Γ' μ' σ' H' w' r' m' => ?_⟩
  obtain ⟨⟨hl, hij⟩, w'⟩ := w'
  rw [hK]
  rcases w' with ⟨h1, w'⟩ | ⟨h1, w'⟩
  · refine ⟨true, h1, fun _ a na => ?_, fun q => nomatch q⟩
    have r2 : Rl C α' σ' (upd H' a (.ext (ExcAt a (.ref cl) none))) Γ' μ' := r'.ext (ex_new na)
    have m2 : Mv C α' μ' H' α' μ' (upd H' a (.ext (ExcAt a (.ref cl) none))) := Mv.ext (ex_new na)
    have ie : Is C.K C.S α' (gk C α' μ' (upd H' a (.ext (ExcAt a (.ref cl) none)))) (.exc cl) (.ref a) := .exc (r'.laid _ na)
    refine ⟨.ref a, ?_, ?_⟩
    · rw [List.getElem?_set_self (by rw [← r'.slen]; exact hl)]
    · exact n α' _ μ' _ _ w' (((r2.setv ie).setv ie).setn) (m'.trans m2)
  · exact ⟨false, h1, (fun q => absurd q Bool.false_ne_true), fun _ => z cl α' Γ' μ' σ' H' w' r' m'⟩
end
end TC

set_option Elab.async false
set_option linter.all false
set_option maxRecDepth 100000
set_option maxHeartbeats 2000000
namespace TC
open PySem PySem.Spec PyProof.Rows L2
section
variable {X : Cx} {C : Cfg} {W : WX} {a b c e o : Expr} {es : List Expr} {st : Stmt} {ss s1 s2 : List Stmt} {wa wb wc we : DX} {wt wu : DT} {ws wr w1 w2 : DS} {was : DA} {pos p : Pos}
/-! ### displays, ifs, and, or, not -/
def wTup (w : DA) : DX := fun Γ μ R Z => w Γ μ (fun ds μ1 => ds.length ≤ big ∧ R (.tup ds) μ1) Z
theorem de_tup {k : Nat} (h : DAs X C W es was) : DE X C W (.Tuple es k pos) (wTup was) := (pe_tupF h).imp fun σ H Q ⟨α, Γ, μ, R, Z, r, w, k, z⟩ =>
  ⟨α, Γ, μ, _, Z, r, w, fun ds vs α1 μ1 H1 w1 r1 m1 i1 => ⟨by rw [← i1.length]; exact big_ok w1.1, fun p ob hp ho => by
    obtain ⟨r2, m2, i2⟩ := r1.tup hp ho i1
    exact k _ _ _ _ _ w1.2 r2 (m1.trans m2) i2⟩, z⟩
def wLst (w : DA) : DX := fun Γ μ R Z => w Γ μ (fun ds μ1 => ds.length ≤ big ∧ R (.lst ds) μ1) Z
theorem de_lst (h : DAs X C W es was) : DE X C W (.List es pos) (wLst was) := (pe_lst h).imp fun σ H Q ⟨α, Γ, μ, R, Z, r, w, k, z⟩ =>
  ⟨α, Γ, μ, _, Z, r, w, fun ds vs α1 μ1 H1 w1 r1 m1 i1 => ⟨by rw [← i1.length]; exact big_ok w1.1, fun p hp => by
    obtain ⟨r2, m2, i2⟩ := r1.lst hp i1
    exact k _ _ _ _ _ w1.2 r2 (m1.trans m2) i2⟩, z⟩
theorem Rl.mlst {α : List Addr} {σ : L2.St} {H : Hp} {Γ : Gam} {μ : Mem} (r : Rl C α σ H Γ μ) {p : Addr} (hp : H p = none) {ds : List D} {xs : List V} (h : Iss C.K C.S α (gk C α μ H) ds xs) :
    Rl C (α ++ [p]) σ (upd H p (.lst xs)) Γ (μ ++ [.lst ds]) ∧ Mv C α μ H (α ++ [p]) (μ ++ [.lst ds]) (upd H p (.lst xs)) ∧ Is C.K C.S (α ++ [p]) (gk C (α ++ [p]) (μ ++ [.lst ds]) (upd H p (.lst xs))) (.mt μ.length) (.ref p) := by
  obtain ⟨r2, m2⟩ := r.grow (o := .lst xs) (c := .lst ds) hp ⟨xs, upd_same, h⟩ (fun q => nomatch q)
  exact ⟨r2, m2, .mt (by rw [← r.len]; simp)⟩
/-- a list that will change -/
def wLstM (w : DA) : DX := fun Γ μ R Z => w Γ μ (fun ds μ1 => ds.length ≤ big ∧ R (.mt μ1.length) (μ1 ++ [.lst ds])) Z
theorem de_lstM (h : DAs X C W es was) : DE X C W (.List es pos) (wLstM was) := (pe_lst h).imp fun σ H Q ⟨α, Γ, μ, R, Z, r, w, k, z⟩ =>
  ⟨α, Γ, μ, _, Z, r, w, fun ds vs α1 μ1 H1 w1 r1 m1 i1 => ⟨by rw [← i1.length]; exact big_ok w1.1, fun p hp => by
    obtain ⟨r2, m2, i2⟩ := r1.mlst hp i1
    exact k _ _ _ _ _ w1.2 r2 (m1.trans m2) i2⟩, z⟩
/-- a mutable thing comes to rest and is handed on -/
def fFrz (d : D) (μ : Mem) (R : RD) : Prop := match d with
  | .mt k => match μ[k]? with
    | some (.lst ds) => R (.lst ds) (μ.set k .dead)
    | some (.dk ks ds) => R (.dk ks ds) (μ.set k .dead)
    | _ => False
  | d => R d μ
def wFrz (we : DX) : DX := fun Γ μ R Z => we Γ μ (fun d μ1 => fFrz d μ1 R) Z
theorem de_frz (h : DE X C W e we) : DE X C W e (wFrz we) := PE.imp h fun σ H Q ⟨α, Γ, μ, R, Z, r, w, k, z⟩ =>
  ⟨α, Γ, μ, _, Z, r, w, fun d v α1 μ1 H1 w1 r1 m1 i1 => by
    cases d with
    | mt n =>
      cases i1 with
      | mt hk =>
        have w1 : (match μ1[n]? with | some (.lst ds) => R (.lst ds) (μ1.set n .dead) | some (.dk ks ds) => R (.dk ks ds) (μ1.set n .dead) | _ => False) := w1
        obtain ⟨r2, m2⟩ := r1.kill (k := n)
        have fr : μ1[n]? ≠ none → ¬ Hid C α1 (μ1.set n .dead) _ := fun q => r2.dead_free hk (by
          cases hq : μ1[n]? with
          | none => exact absurd hq q
          | some c => rw [List.getElem?_set_self (List.getElem?_eq_some_iff.mp hq).1])
        split at w1
        · rename_i ds hq
          obtain ⟨xs, h1, h2⟩ := r1.cells n _ _ hk hq
          exact k _ _ _ _ _ w1 r2 (m1.trans m2) (.lst (gk_of h1 (fr (by rw [hq]; exact fun q => nomatch q))) (m2.iss h2))
        · rename_i ks ds hq
          obtain ⟨xs, h1, h2, h3⟩ := r1.cells n _ _ hk hq
          exact k _ _ _ _ _ w1 r2 (m1.trans m2) (.dk (gk_of h1 (fr (by rw [hq]; exact fun q => nomatch q))) h2 (m2.iss h3))
        · exact w1.elim
    | _ => exact k _ _ _ _ _ w1 r1 m1 i1, z⟩
def wIte (wt : DT) (wa wb : DX) : DX := fun Γ μ R Z => wt Γ μ (fun k μ1 => if k = true then wa Γ μ1 R Z else wb Γ μ1 R Z) Z
theorem de_ite (hc : DTs X C W c wt) (ha : DE X C W a wa) (hb : DE X C W b wb) : DE X C W (.IfExp c a b pos) (wIte wt wa wb) := (pe_ifExp hc ha hb).imp fun σ H Q ⟨α, Γ, μ, R, Z, r, w, k, z⟩ =>
  ⟨α, Γ, μ, _, Z, r, w, fun n α1 μ1 H1 w1 r1 m1 => by
    cases n with
    | true => exact ⟨α1, Γ, μ1, R, Z, r1, w1, fun d v α2 μ2 H2 w2 r2 m2 i2 => k d v α2 μ2 H2 w2 r2 (m1.trans m2) i2, z.mv m1⟩
    | false => exact ⟨α1, Γ, μ1, R, Z, r1, w1, fun d v α2 μ2 H2 w2 r2 m2 i2 => k d v α2 μ2 H2 w2 r2 (m1.trans m2) i2, z.mv m1⟩, z⟩
def bOf (d : D) (k : Bool → Prop) : Prop := match d with
  | .bl b => k b
  | _ => False
/-- and, or, not of truths, as values -/
def wAndV (wa wb : DX) : DX := fun Γ μ R Z => wa Γ μ (fun d μ1 => bOf d fun k => if k = true then wb Γ μ1 R Z else R (.bl false) μ1) Z
def wOrV (wa wb : DX) : DX := fun Γ μ R Z => wa Γ μ (fun d μ1 => bOf d fun k => if k = true then R (.bl true) μ1 else wb Γ μ1 R Z) Z
def wNotV (wa : DX) : DX := fun Γ μ R Z => wa Γ μ (fun d μ1 => bOf d fun k => R (.bl (!k)) μ1) Z
theorem bOf_is {K : PySem.W.Frag} {S : Sts} {α : List Addr} {G : Hp} {d : D} {v : V} {k : Bool → Prop} (h : bOf d k) (i : Is K S α G d v) : ∃ n, v = .bl n ∧ k n := by
  cases d <;> first | exact h.elim | skip
  cases i
  exact ⟨_, rfl, h⟩
theorem de_one {op : BoolOp} (h : DE X C W a wa) : DE X C W (.BoolOp op [a] pos) wa := pe_one h
theorem de_and {rest : List Expr} (ha : DE X C W a wa) (hb : DE X C W (.BoolOp .And (b :: rest) pos) wb) : DE X C W (.BoolOp .And (a :: b :: rest) pos) (wAndV wa wb) := (pe_and ha hb).imp fun σ H Q ⟨α, Γ, μ, R, Z, r, w, k, z⟩ =>
  ⟨α, Γ, μ, _, Z, r, w, fun d v α1 μ1 H1 w1 r1 m1 i1 => by
    obtain ⟨n, rfl, w1⟩ := bOf_is w1 i1
    refine ⟨n, rfl, ?_⟩
    cases n with
    | true => exact ⟨α1, Γ, μ1, R, Z, r1, w1, fun d v α2 μ2 H2 w2 r2 m2 i2 => k d v α2 μ2 H2 w2 r2 (m1.trans m2) i2, z.mv m1⟩
    | false => exact k _ _ _ _ _ w1 r1 m1 (.bl _), z⟩
theorem de_or {rest : List Expr} (ha : DE X C W a wa) (hb : DE X C W (.BoolOp .Or (b :: rest) pos) wb) : DE X C W (.BoolOp .Or (a :: b :: rest) pos) (wOrV wa wb) := (pe_or ha hb).imp fun σ H Q ⟨α, Γ, μ, R, Z, r, w, k, z⟩ =>
  ⟨α, Γ, μ, _, Z, r, w, fun d v α1 μ1 H1 w1 r1 m1 i1 => by
    obtain ⟨n, rfl, w1⟩ := bOf_is w1 i1
    refine ⟨n, rfl, ?_⟩
    cases n with
    | true => exact k _ _ _ _ _ w1 r1 m1 (.bl _)
    | false => exact ⟨α1, Γ, μ1, R, Z, r1, w1, fun d v α2 μ2 H2 w2 r2 m2 i2 => k d v α2 μ2 H2 w2 r2 (m1.trans m2) i2, z.mv m1⟩, z⟩
theorem de_not (ha : DE X C W a wa) : DE X C W (.UnaryOp .Not a pos) (wNotV wa) := (pe_not ha).imp fun σ H Q ⟨α, Γ, μ, R, Z, r, w, k, z⟩ =>
  ⟨α, Γ, μ, _, Z, r, w, fun d v α1 μ1 H1 w1 r1 m1 i1 => by
    obtain ⟨n, rfl, w1⟩ := bOf_is w1 i1
    exact ⟨n, rfl, k _ _ _ _ _ w1 r1 m1 (.bl _)⟩, z⟩
def wNeg (wa : DX) : DX := fun Γ μ R Z => wa Γ μ (fun d μ1 => match d with | .int i => R (.int (-i)) μ1 | _ => False) Z
theorem de_neg (ha : DE X C W a wa) : DE X C W (.UnaryOp .USub a pos) (wNeg wa) := (pe_un un_neg ha).imp fun σ H Q ⟨α, Γ, μ, R, Z, r, w, k, z⟩ =>
  ⟨α, Γ, μ, _, Z, r, w, fun d v α1 μ1 H1 w1 r1 m1 i1 => by
    cases d <;> first | exact w1.elim | skip
    cases i1
    exact ⟨_, rfl, k _ _ _ _ _ w1 r1 m1 (.int _)⟩, z⟩
/-! ### tests -/
def DWs (X : Cx) (C : Cfg) (W : WX) (e : Expr) (w : DT) : Prop := PW X e (canT C W w)
def wAnd (w u : DT) : DT := fun Γ μ R Z => w Γ μ (fun k μ1 => if k = true then u Γ μ1 R Z else R false μ1) Z
def wOr (w u : DT) : DT := fun Γ μ R Z => w Γ μ (fun k μ1 => if k = true then R true μ1 else u Γ μ1 R Z) Z
def wNot (w : DT) : DT := fun Γ μ R Z => w Γ μ (fun k μ1 => R (!k) μ1) Z
theorem _root_.L2.PW.imp {X : Cx} {e : Expr} {t t' : TT} (h : PW X e t) (k : ∀ σ H Q, t' σ H Q → t σ H Q) : PW X e t' := ⟨fun wh pins s σ H Q I q => h.run wh pins s σ H Q I (k _ _ _ q)⟩
theorem dw_pt (h : DWs X C W e wt) : DTs X C W e wt := PW.pt h
theorem dw_and1 (h : DTs X C W a wt) : DWs X C W (.BoolOp .And [a] pos) wt := pw_and1 h
theorem dw_or1 (h : DTs X C W a wt) : DWs X C W (.BoolOp .Or [a] pos) wt := pw_or1 h
theorem dw_and {rest : List Expr} (ha : DTs X C W a wt) (hb : DWs X C W (.BoolOp .And (b :: rest) pos) wu) : DWs X C W (.BoolOp .And (a :: b :: rest) pos) (wAnd wt wu) := (pw_and ha hb).imp fun σ H Q ⟨α, Γ, μ, R, Z, r, w, k, z⟩ =>
  ⟨α, Γ, μ, _, Z, r, w, fun n α1 μ1 H1 w1 r1 m1 => by
    cases n with
    | true => exact ⟨α1, Γ, μ1, R, Z, r1, w1, fun b α2 μ2 H2 w2 r2 m2 => k b α2 μ2 H2 w2 r2 (m1.trans m2), z.mv m1⟩
    | false => exact k _ _ _ _ w1 r1 m1, z⟩
theorem dw_or {rest : List Expr} (ha : DTs X C W a wt) (hb : DWs X C W (.BoolOp .Or (b :: rest) pos) wu) : DWs X C W (.BoolOp .Or (a :: b :: rest) pos) (wOr wt wu) := (pw_or ha hb).imp fun σ H Q ⟨α, Γ, μ, R, Z, r, w, k, z⟩ =>
  ⟨α, Γ, μ, _, Z, r, w, fun n α1 μ1 H1 w1 r1 m1 => by
    cases n with
    | true => exact k _ _ _ _ w1 r1 m1
    | false => exact ⟨α1, Γ, μ1, R, Z, r1, w1, fun b α2 μ2 H2 w2 r2 m2 => k b α2 μ2 H2 w2 r2 (m1.trans m2), z.mv m1⟩, z⟩
theorem dt_not (ha : DTs X C W a wt) : DTs X C W (.UnaryOp .Not a pos) (wNot wt) := (pt_not ha).imp fun σ H Q ⟨α, Γ, μ, R, Z, r, w, k, z⟩ =>
  ⟨α, Γ, μ, _, Z, r, w, fun n α1 μ1 H1 w1 r1 m1 => k _ _ _ _ w1 r1 m1, z⟩

/-! ### calls of builtins -/
def SndCall (C : Cfg) (r : List V → Hp → VK → Prop) (f : List D → Mem → RD → Prop) : Prop := ∀ (ds : List D) (vs : List V) (α : List Addr) (σ : L2.St) (H : Hp) (Γ : Gam) (μ : Mem) (R : RD) (Q : VK), Rl C α σ H Γ μ →
  Iss C.K C.S α (gk C α μ H) ds vs → f ds μ R → (∀ d v' α' μ' H', R d μ' → Rl C α' σ H' Γ μ' → Mv C α μ H α' μ' H' → Is C.K C.S α' (gk C α' μ' H') d v' → Q v' H') → r vs H Q
def wCB (f : List D → Mem → RD → Prop) (was : DA) : DX := fun Γ μ R Z => was Γ μ (fun ds μ1 => f ds μ1 R) Z
theorem de_cb {r : List V → Hp → VK → Prop} {f : List D → Mem → RD → Prop} (sn : SndCall C r f) (h : PE X e (tCB r (canA C W was))) : DE X C W e (wCB f was) := h.imp fun σ H Q ⟨α, Γ, μ, R, Z, r, w, k, z⟩ =>
  ⟨α, Γ, μ, _, Z, r, w, fun ds vs α1 μ1 H1 w1 r1 m1 i1 => sn ds vs α1 σ H1 Γ μ1 R Q r1 i1 w1 fun d v' α' μ' H' w2 r2 m2 i2 => k d v' α' μ' H' w2 r2 (m1.trans m2) i2, z⟩
def dLen : List D → Mem → RD → Prop := fun ds μ R => match ds with
  | [x] => match items x μ with
    | some ys => R (.int (ys.length : Int)) μ
    | none => False
  | _ => False
theorem iss1 {K : PySem.W.Frag} {S : Sts} {α : List Addr} {G : Hp} {x : D} {vs : List V} (h : Iss K S α G [x] vs) : ∃ v, vs = [v] ∧ Is K S α G x v := by
  cases h with
  | cons h r => cases r; exact ⟨_, rfl, h⟩
theorem iss2 {K : PySem.W.Frag} {S : Sts} {α : List Addr} {G : Hp} {x y : D} {vs : List V} (h : Iss K S α G [x, y] vs) : ∃ v u, vs = [v, u] ∧ Is K S α G x v ∧ Is K S α G y u := by
  cases h with
  | cons h r =>
    obtain ⟨u, rfl, h2⟩ := iss1 r
    exact ⟨_, _, rfl, h, h2⟩
theorem sn_len : SndCall C (fun xs H Q => ∃ p ys, xs = [.ref p] ∧ (SqL C.K H p ys ∨ SqT C.K H p ys) ∧ Q (.int ys.length) H) dLen := by
  intro ds vs α σ H Γ μ R Q r i w k
  unfold dLen at w
  split at w
  · obtain ⟨v, rfl, h⟩ := iss1 i
    split at w
    · rename_i ys hi
      obtain ⟨p, xs, rfl, hs, q⟩ := r.items h hi
      rw [q.length] at w
      exact ⟨p, xs, rfl, hs, k _ _ _ _ _ w r Mv.refl (.int _)⟩
    · exact w.elim
  · exact w.elim
def dTupOf : List D → Mem → RD → Prop := fun ds μ R => match ds with
  | [x] => match items x μ with
    | some ys => R (.tup ys) μ
    | none => False
  | _ => False
theorem sn_tupOf : SndCall C (rTupOf C.K) dTupOf := by
  intro ds vs α σ H Γ μ R Q r i w k
  unfold dTupOf at w
  split at w
  · obtain ⟨v, rfl, h⟩ := iss1 i
    split at w
    · rename_i ys hi
      cases h with
      | tup h q =>
        cases hi
        exact ⟨_, _, rfl,   .inr ⟨gk_ex.t h.sq, k _ _ _ _ _ w r Mv.refl (.tup h q)⟩⟩
      | lst h q =>
        cases hi
        refine ⟨_, _, rfl, .inl ⟨SqL.of (gk_ex _ _ h), fun l ob hl ho => ?_⟩⟩
        obtain ⟨r2, m2, i2⟩ := r.tup hl ho q
        exact k _ _ _ _ _ w r2 m2 i2
      | scr h =>
        cases hi
        refine ⟨_, _, rfl, .inl ⟨gk_ex.l h, fun l ob hl ho => ?_⟩⟩
        obtain ⟨r2, m2, i2⟩ := r.tup hl ho (Iss.of_ints _)
        exact k _ _ _ _ _ w r2 m2 i2
      | mt hk =>
        obtain ⟨p, xs, e, hs, q⟩ := r.items (.mt hk) hi
        cases e
        rename_i n
        have hi : (match μ[n]? with | some (.lst ds) => some ds | _ => none) = some ys := hi
        split at hi
        · rename_i ds' hq
          cases hi
          obtain ⟨zs, h1, h2⟩ := r.cells n _ _ hk hq
          refine ⟨_, zs, rfl, .inl ⟨SqL.of h1, fun l ob hl ho => ?_⟩⟩
          obtain ⟨r2, m2, i2⟩ := r.tup hl ho h2
          exact k _ _ _ _ _ w r2 m2 i2
        · cases hi
      | _ => cases hi
    · exact w.elim
  · exact w.elim
def dLstOf : List D → Mem → RD → Prop := fun ds μ R => match ds with
  | [x] => match items x μ with
    | some ys => R (.lst ys) μ
    | none => False
  | _ => False
def dLstOfM : List D → Mem → RD → Prop := fun ds μ R => match ds with
  | [x] => match items x μ with
    | some ys => R (.mt μ.length) (μ ++ [.lst ys])
    | none => False
  | _ => False
theorem sn_lstOf : SndCall C (fun xs H Q => ∃ p ys, xs = [.ref p] ∧ (SqL C.K H p ys ∨ SqT C.K H p ys) ∧ ∀ l, H l = none → Q (.ref l) (upd H l (.lst ys))) dLstOf := by
  intro ds vs α σ H Γ μ R Q r i w k
  unfold dLstOf at w
  split at w
  · obtain ⟨v, rfl, h⟩ := iss1 i
    split at w
    · rename_i ys hi
      obtain ⟨p, xs, rfl, hs, q⟩ := r.items h hi
      refine ⟨p, xs, rfl, hs, fun l hl => ?_⟩
      obtain ⟨r2, m2, i2⟩ := r.lst hl q
      exact k _ _ _ _ _ w r2 m2 i2
    · exact w.elim
  · exact w.elim
theorem sn_lstOfM : SndCall C (fun xs H Q => ∃ p ys, xs = [.ref p] ∧ (SqL C.K H p ys ∨ SqT C.K H p ys) ∧ ∀ l, H l = none → Q (.ref l) (upd H l (.lst ys))) dLstOfM := by
  intro ds vs α σ H Γ μ R Q r i w k
  unfold dLstOfM at w
  split at w
  · obtain ⟨v, rfl, h⟩ := iss1 i
    split at w
    · rename_i ys hi
      obtain ⟨p, xs, rfl, hs, q⟩ := r.items h hi
      refine ⟨p, xs, rfl, hs, fun l hl => ?_⟩
      obtain ⟨r2, m2, i2⟩ := r.mlst hl q
      exact k _ _ _ _ _ w r2 m2 i2
    · exact w.elim
  · exact w.elim
def dAll : List D → Mem → RD → Prop := fun ds μ R => match ds with
  | [x] => ∃ bs : List Bool, items x μ = some (bs.map D.bl) ∧ R (.bl (bs.all id)) μ
  | _ => False
theorem sn_all : SndCall C (fun vs H Q => ∃ (a : Addr) (bs : List Bool), vs = [V.ref a] ∧ SqL C.K H a (bs.map V.bl) ∧ Q (.bl (bs.all id)) H) (fun ds μ R => dAll ds μ R ∧ ∀ ys, ds ≠ [.tup ys]) := by
  intro ds vs α σ H Γ μ R Q r i ⟨w, nt⟩ k
  unfold dAll at w
  split at w
  · obtain ⟨v, rfl, h⟩ := iss1 i
    obtain ⟨bs, hi, w⟩ := w
    obtain ⟨p, xs, rfl, hs, q⟩ := r.items h hi
    have e := q.bls
    subst e
    refine ⟨p, bs, rfl, ?_, k _ _ _ _ _ w r Mv.refl (.bl _)⟩
    cases h with
    | lst h q2 =>
      cases hi
      have e := q2.bls
      subst e
      exact SqL.of (gk_ex _ _ h)
    | tup h q2 => exact absurd rfl (nt _)
    | scr h =>
      rename_i ns
      have hi : some (ns.map D.int) = some (bs.map D.bl) := hi
      cases ns with
      | nil =>
        cases bs with
        | nil => exact gk_ex.l h
        | cons b bs => simp at hi
      | cons n ns =>
        cases bs with
        | nil => simp at hi
        | cons b bs => simp at hi
    | mt hk =>
      rename_i n
      have hi : (match μ[n]? with | some (.lst ds) => some ds | _ => none) = some (bs.map D.bl) := hi
      split at hi
      · rename_i ds' hq
        cases hi
        obtain ⟨zs, h1, h2⟩ := r.cells n _ _ hk hq
        have e := h2.bls
        subst e
        exact SqL.of h1
      · cases hi
    | _ => cases hi
  · exact w.elim
def dSorted : List D → Mem → RD → Prop := fun ds μ R => match ds with
  | [x] => ∃ ns : List Int, items x μ = some (ns.map D.int) ∧ ns.length < 64 ∧ ∀ ns' : List Int, ns'.Perm ns → ns'.Pairwise (· ≤ ·) → R (.lst (ns'.map D.int)) μ
  | _ => False
theorem sn_sorted : SndCall C (fun vs H Q => rSorted C.K vs H Q ∨ rSortedTup C.K vs H Q) dSorted := by
  intro ds vs α σ H Γ μ R Q r i w k
  unfold dSorted at w
  split at w
  · obtain ⟨v, rfl, h⟩ := iss1 i
    obtain ⟨ns, hi, h64, w⟩ := w
    obtain ⟨p, xs, rfl, hs, q⟩ := r.items h hi
    have e := q.ints
    subst e
    rcases hs with hs | hs
    · refine .inl ⟨p, ns, rfl, hs, h64, fun ns' l h1 h2 hl => ?_⟩
      obtain ⟨r2, m2, i2⟩ := r.lst hl (Iss.of_ints ns')
      exact k _ _ _ _ _ (w ns' h1 h2) r2 m2 i2
    · refine .inr ⟨p, ns, rfl, hs, h64, fun ns' l h1 h2 hl => ?_⟩
      obtain ⟨r2, m2, i2⟩ := r.lst hl (Iss.of_ints ns')
      exact k _ _ _ _ _ (w ns' h1 h2) r2 m2 i2
  · exact w.elim
def dAbs : List D → Mem → RD → Prop := fun ds μ R => match ds with
  | [.int i] => R (.int (if i < 0 then -i else i)) μ
  | _ => False
theorem sn_abs : SndCall C (fun xs H Q => ∃ i, xs = [.int i] ∧ Q (.int (if i < 0 then -i else i)) H) dAbs := by
  intro ds vs α σ H Γ μ R Q r i w k
  unfold dAbs at w
  split at w
  · obtain ⟨v, rfl, h⟩ := iss1 i
    cases h
    exact ⟨_, rfl, k _ _ _ _ _ w r Mv.refl (.int _)⟩
  · exact w.elim
def dStr : List D → Mem → RD → Prop := fun ds μ R => match ds with
  | [.int i] => i.natAbs.log2 < 1920 ∧ R (.str (toString i)) μ
  | _ => False
theorem sn_str : SndCall C (fun xs H Q => ∃ i, xs = [.int i] ∧ i.natAbs.log2 < 1920 ∧ Q (.str (toString i)) H) dStr := by
  intro ds vs α σ H Γ μ R Q r i w k
  unfold dStr at w
  split at w
  · obtain ⟨v, rfl, h⟩ := iss1 i
    cases h
    exact ⟨_, rfl, w.1, k _ _ _ _ _ w.2 r Mv.refl (.str _)⟩
  · exact w.elim
/-! isinstance -/
def tyN : D → Option String
  | .non => some "NoneType"
  | .bl _ => some "bool"
  | .int _ => some "int"
  | .str _ => some "str"
  | .tup _ => some "tuple"
  | .lst _ => some "list"
  | .dk _ _ => some "dict"
  | _ => none
def isi (t c : String) : Bool := t == c || (t == "bool" && c == "int")
def tyAll : List String := ["NoneType", "bool", "int", "str", "tuple", "list", "dict"]
theorem isi_ok : ∀ t ∈ tyAll, ∀ c ∈ ["int", "bool", "tuple", "list", "str", "dict"], kitB t c = some (isi t c) := by decide +kernel
theorem Is.tyx {K : PySem.W.Frag} {S : Sts} {α : List Addr} {d : D} {v : V} {H : Hp} (h : Is K S α H d v) {n : String} (e : tyN d = some n) : TyX K H v (.type n) ∧ n ∈ tyAll := by
  cases h with
  | non => cases e; exact ⟨.base .non, by decide⟩
  | bl b => cases e; exact ⟨.base (.bl b), by decide⟩
  | int b => cases e; exact ⟨.base (.int b), by decide⟩
  | str b => cases e; exact ⟨.base (.str b), by decide⟩
  | tup h q =>
    cases e
    refine ⟨?_, by decide⟩
    rcases h with ⟨o, h, _⟩ | ⟨o, its, n, h1, h2, _⟩
    · exact .fTuple h
    · exact .kTuple h1 h2
  | lst h q => cases e; exact ⟨.base (.lst h), by decide⟩
  | dk h q => cases e; exact ⟨.base (.dK h), by decide⟩
  | _ => cases e
def dIsi (K : PySem.W.Frag) : List D → Mem → RD → Prop := fun ds μ R => match ds with
  | [x, .ty c] => match x with
    | .exc cl => ∃ b, (ExcC K cl ∧ PySem.W.kitOne K (.ref cl) (.type c) = some b) ∧ R (.bl b) μ
    | _ => match tyN (res x μ) with
      | some n => (["int", "bool", "tuple", "list", "str", "dict"].contains c) = true ∧ R (.bl (isi n c)) μ
      | none => False
  | [.exc cl, .own g] => ∃ b, (ExcC K cl ∧ PySem.W.kitOne K (.ref cl) (.ref g) = some b) ∧ R (.bl b) μ
  | _ => False
theorem sn_isi : SndCall C (rIsAny C.K) (dIsi C.K) := by
  intro ds vs α σ H Γ μ R Q r i w k
  unfold dIsi at w
  split at w
  · rename_i x c
    obtain ⟨v, u, rfl, h1, h2⟩ := iss2 i
    cases h2
    split at w
    · rename_i cl
      obtain ⟨b, ⟨x1, x2⟩, w⟩ := w
      cases h1 with
      | exc h => exact .inr ⟨_, cl, _, _, b, rfl, gk_ex _ _ h, x1, .ty c, x2, k _ _ _ _ _ w r Mv.refl (.bl _)⟩
    · split at w
      · rename_i n hn
        obtain ⟨hc, w⟩ := w
        obtain ⟨ty, hm⟩ := (r.res h1).tyx hn
        exact .inl ⟨_, _, _, _, _, rfl, .ty c, ty, kit_ty (isi_ok n hm c (by simpa using hc)), k _ _ _ _ _ w r Mv.refl (.bl _)⟩
      · exact w.elim
  · rename_i cl g
    obtain ⟨v, u, rfl, h1, h2⟩ := iss2 i
    obtain ⟨b, ⟨x1, x2⟩, w⟩ := w
    cases h2
    cases h1 with
    | exc h => exact .inr ⟨_, cl, _, _, b, rfl, gk_ex _ _ h, x1, .own _, x2, k _ _ _ _ _ w r Mv.refl (.bl _)⟩
  · exact w.elim
end
end TC

set_option Elab.async false
set_option linter.all false
set_option maxRecDepth 100000
set_option maxHeartbeats 2000000
namespace TC
open PySem PySem.Spec PyProof.Rows L2
section
variable {X : Cx} {C : Cfg} {W : WX} {a b c e o : Expr} {es : List Expr} {st : Stmt} {wa wb wc we wo : DX} {was : DA} {pos p : Pos}
/-! ### methods -/
def SndMt (C : Cfg) (r : V → List V → Hp → VK → Prop) (f : D → List D → Mem → RD → Prop) : Prop := ∀ (x : D) (v : V) (ds : List D) (vs : List V) (α : List Addr) (σ : L2.St) (H : Hp) (Γ : Gam) (μ : Mem) (R : RD) (Q : VK), Rl C α σ H Γ μ →
  Is C.K C.S α (gk C α μ H) x v → Iss C.K C.S α (gk C α μ H) ds vs → f x ds μ R → (∀ d v' α' μ' H', R d μ' → Rl C α' σ H' Γ μ' → Mv C α μ H α' μ' H' → Is C.K C.S α' (gk C α' μ' H') d v' → Q v' H') → r v vs H Q
def isLst (d : D) (μ : Mem) : Bool := match d with
  | .lst _ => true
  | .mt k => match μ[k]? with
    | some (.lst _) => true
    | _ => false
  | _ => false
def wMeth (f : D → List D → Mem → RD → Prop) (wo : DX) (was : DA) : DX := fun Γ μ R Z => wo Γ μ (fun d μ1 => isLst d μ1 = true ∧ was Γ μ1 (fun ds μ2 => f d ds μ2 R) Z) Z
theorem isLst_ty {α : List Addr} {σ : L2.St} {H : Hp} {Γ : Gam} {μ : Mem} {d : D} {v : V} (r : Rl C α σ H Γ μ) (h : Is C.K C.S α (gk C α μ H) d v) (l : isLst d μ = true) : tyV C.K "list" v H := by
  cases h with
  | lst h q => exact .inl ⟨rfl, _, SqL.of (gk_ex _ _ h)⟩
  | mt hk =>
    rename_i n
    have l : (match μ[n]? with | some (.lst _) => true | _ => false) = true := l
    split at l
    · rename_i ds hq
      obtain ⟨xs, h1, _⟩ := r.cells n _ _ hk hq
      exact .inl ⟨rfl, _, SqL.of h1⟩
    · cases l
  | _ => cases l
theorem de_meth {r : V → List V → Hp → VK → Prop} {f : D → List D → Mem → RD → Prop} (hK : X.K = C.K) (sn : SndMt C r f) (h : PE X e (tBM X.K "list" r (canE C W wo) (canA C W was))) : DE X C W e (wMeth f wo was) := h.imp fun σ H Q ⟨α, Γ, μ, R, Z, r, w, k, z⟩ => by
  rw [hK]
  refine ⟨α, Γ, μ, _, Z, r, w, fun d v α1 μ1 H1 w1 r1 m1 i1 => ⟨isLst_ty r1 i1 w1.1, ?_⟩, z⟩
  exact ⟨α1, Γ, μ1, _, Z, r1, w1.2, fun ds vs α2 μ2 H2 w2 r2 m2 i2 => sn d v ds vs α2 σ H2 Γ μ2 R Q r2 (m2.is i1) i2 w2 fun d v' α' μ' H' w3 r3 m3 i3 => k d v' α' μ' H' w3 r3 ((m1.trans m2).trans m3) i3, z.mv m1⟩
def wMethT (f : D → List D → Mem → RD → Prop) (wo : DX) (was : DA) : DX := fun Γ μ R Z => wo Γ μ (fun d μ1 => match d with
  | .tup _ => was Γ μ1 (fun ds μ2 => f d ds μ2 R) Z
  | _ => False) Z
theorem de_methT {r : V → List V → Hp → VK → Prop} {f : D → List D → Mem → RD → Prop} (hK : X.K = C.K) (sn : SndMt C r f) (h : PE X e (tBT X.K r (canE C W wo) (canA C W was))) : DE X C W e (wMethT f wo was) := h.imp fun σ H Q ⟨α, Γ, μ, R, Z, r, w, k, z⟩ => by
  rw [hK]
  refine ⟨α, Γ, μ, _, Z, r, w, fun d v α1 μ1 H1 w1 r1 m1 i1 => ?_, z⟩
  cases i1 with
  | tup h q =>
    refine ⟨⟨_, _, rfl, gk_ex.tupd h⟩, ?_⟩
    exact ⟨α1, Γ, μ1, _, Z, r1, w1, fun ds vs α2 μ2 H2 w2 r2 m2 i2 => sn _ _ ds vs α2 σ H2 Γ μ2 R Q r2 (m2.is (.tup h q)) i2 w2 fun d v' α' μ' H' w3 r3 m3 i3 => k d v' α' μ' H' w3 r3 ((m1.trans m2).trans m3) i3, z.mv m1⟩
  | _ => exact w1.elim
def dAppend : D → List D → Mem → RD → Prop := fun x ds μ R => match x, ds with
  | .mt k, [y] => match μ[k]? with
    | some (.lst xs) => xs.length < big ∧ R .non (μ.set k (.lst (xs ++ [y])))
    | _ => False
  | _, _ => False
theorem sn_append : SndMt C rAppend dAppend := by
  intro x v ds vs α σ H Γ μ R Q r ix is w k
  unfold dAppend at w
  split at w
  · rename_i n y
    obtain ⟨u, rfl, hu⟩ := iss1 is
    cases ix with
    | mt hk =>
      split at w
      · rename_i xs hq
        obtain ⟨zs, h1, h2⟩ := r.cells n _ _ hk hq
        obtain ⟨r2, m2⟩ := r.write (o := .lst (zs ++ [u])) (c := .lst (xs ++ [y])) hk (by rw [hq]; exact fun q => nomatch q) ⟨_, upd_same, h2.append (.cons hu .nil)⟩ (fun q => nomatch q)
        exact ⟨_, zs, u, rfl, rfl, h1, by rw [← h2.length]; exact big_lt w.1, k _ _ _ _ _ w.2 r2 m2 .non⟩
      · exact w.elim
  · exact w.elim
def dPopAt : D → List D → Mem → RD → Prop := fun x ds μ R => match x, ds with
  | .mt k, [.int i] => match μ[k]? with
    | some (.lst xs) => (0 ≤ i ∧ i < 1000000) ∧ ∃ d, xs[i.toNat]? = some d ∧ R d (μ.set k (.lst (xs.eraseIdx i.toNat)))
    | _ => False
  | _, _ => False
theorem sn_popAt : SndMt C rPopAt dPopAt := by
  intro x v ds vs α σ H Γ μ R Q r ix is w k
  unfold dPopAt at w
  split at w
  · rename_i n i
    obtain ⟨u, rfl, hu⟩ := iss1 is
    cases hu
    cases ix with
    | mt hk =>
      split at w
      · rename_i xs hq
        obtain ⟨⟨hi, hi2⟩, d, hd, w⟩ := w
        obtain ⟨zs, h1, h2⟩ := r.cells n _ _ hk hq
        obtain ⟨r2, m2⟩ := r.write (o := .lst (zs.eraseIdx i.toNat)) (c := .lst (xs.eraseIdx i.toNat)) hk (by rw [hq]; exact fun q => nomatch q) ⟨_, upd_same, h2.eraseIdx _⟩ (fun q => nomatch q)
        obtain ⟨u, hu, iu⟩ := h2.get hd
        have hl := (List.getElem?_eq_some_iff.mp hu).1
        refine ⟨_, zs, i, i.toNat, u, rfl, rfl, h1, by omega, by omega, ?_, hu, k _ _ _ _ _ w r2 m2 (m2.is iu)⟩
        unfold seqIndex?
        simp only [Bool.and_eq_true, decide_eq_true_eq]
        first
          | (rw [if_pos (by omega)]; done)
          | (simp; omega)
      · exact w.elim
  · exact w.elim
def dCount : D → List D → Mem → RD → Prop := fun x ds μ R => match ds with
  | [y] => match items x μ with
    | some xs => (flatD y = true ∧ xs.all flatD = true) ∧ R (.int (xs.countP fun z => deq z y : Nat)) μ
    | none => False
  | _ => False
theorem countP_of {K : PySem.W.Frag} {S : Sts} {α : List Addr} {G : Hp} {x : D} {v : V} (h1 : Is K S α G x v) (f1 : flatD x = true) : ∀ {ds : List D} {vs : List V}, Iss K S α G ds vs → ds.all flatD = true → (vs.countP fun z => eqV z v) = ds.countP fun z => deq z x
  | _, _, .nil, _ => rfl
  | d :: ds, w :: ws, .cons h r, q => by
    rw [List.all_cons, Bool.and_eq_true] at q
    rw [List.countP_cons, List.countP_cons, deq_flat h h1 q.1 f1, countP_of h1 f1 r q.2]
theorem Rl.itemsL {α : List Addr} {σ : L2.St} {H : Hp} {Γ : Gam} {μ : Mem} {d : D} {v : V} (r : Rl C α σ H Γ μ) (h : Is C.K C.S α (gk C α μ H) d v) (l : isLst d μ = true) {ds : List D} (hi : TC.items d μ = some ds) :
    ∃ p xs, v = .ref p ∧ SqL C.K H p xs ∧ Iss C.K C.S α (gk C α μ H) ds xs := by
  cases h with
  | lst h q => cases hi; exact ⟨_, _, rfl, SqL.of (gk_ex _ _ h), q⟩
  | mt hk =>
    rename_i n
    have hi : (match μ[n]? with | some (.lst ds) => some ds | _ => none) = some ds := hi
    split at hi
    · rename_i ds' hq
      cases hi
      obtain ⟨zs, h1, h2⟩ := r.cells n _ _ hk hq
      exact ⟨_, zs, rfl, SqL.of h1, h2⟩
    · cases hi
  | _ => cases l
theorem sn_count : SndMt C (rCntV C.K) (fun x ds μ R => isLst x μ = true ∧ dCount x ds μ R) := by
  intro x v ds vs α σ H Γ μ R Q r ix is ⟨hl, w⟩ k
  unfold dCount at w
  split at w
  · rename_i y
    obtain ⟨u, rfl, hu⟩ := iss1 is
    split at w
    · rename_i xs hq
      obtain ⟨⟨f1, f2⟩, w⟩ := w
      obtain ⟨p, zs, rfl, hs, q⟩ := Rl.itemsL r ix hl hq
      rw [← countP_of hu f1 q f2] at w
      exact ⟨p, zs, u, rfl, rfl, hs, hu.flat f1, q.flat f2, k _ _ _ _ _ w r Mv.refl (.int _)⟩
    · exact w.elim
  · exact w.elim
/-- xs.index(y): the first place -/
def dIndex : D → List D → Mem → RD → Prop := fun x ds μ R => isLst x μ = true ∧ match ds with
  | [y] => match items x μ with
    | some xs => (flatD y = true ∧ xs.all flatD = true) ∧ ∃ (j : Nat) (z : D), (xs[j]? = some z ∧ deq z y = true ∧ ∀ (m : Nat) z', m < j → xs[m]? = some z' → deq z' y = false) ∧ R (.int (j : Nat)) μ
    | none => False
  | _ => False
theorem flat_get {xs : List D} (f : xs.all flatD = true) {j : Nat} {z : D} (h : xs[j]? = some z) : flatD z = true := List.all_eq_true.mp f z (List.mem_of_getElem? h)
theorem sn_index : SndMt C (rIndex C.K) dIndex := by
  intro x v ds vs α σ H Γ μ R Q r ix is ⟨hl, w⟩ k
  split at w
  · rename_i y
    obtain ⟨u, rfl, hu⟩ := iss1 is
    split at w
    · rename_i xs hq
      obtain ⟨⟨f1, f2⟩, j, z, ⟨h1, h2, h3⟩, w⟩ := w
      obtain ⟨p, zs, rfl, hs, q⟩ := Rl.itemsL r ix hl hq
      obtain ⟨zv, hz, iz⟩ := q.get h1
      refine ⟨p, zs, u, j, zv, rfl, rfl, hs, hu.flat f1, q.flat f2, hz, ?_, fun m z' hm hz' => ?_, k _ _ _ _ _ w r Mv.refl (.int _)⟩
      · rw [deq_flat iz hu (flat_get f2 h1) f1]; exact h2
      · obtain ⟨d', hd', id'⟩ := q.get' hz'
        rw [deq_flat id' hu (flat_get f2 hd') f1]
        exact h3 m d' hm hd'
    · exact w.elim
  · exact w.elim
def dTIdx : D → List D → Mem → RD → Prop := fun x ds μ R => match ds with
  | [.int k] => ∃ ns : List Int, x = .tup (ns.map D.int) ∧ k ∈ ns ∧ R (.int (ns.idxOf k : Nat)) μ
  | _ => False
theorem sn_tidx : SndMt C (rTIdx C.K) dTIdx := by
  intro x v ds vs α σ H Γ μ R Q r ix is w k
  unfold dTIdx at w
  split at w
  · rename_i n
    obtain ⟨u, rfl, hu⟩ := iss1 is
    cases hu
    obtain ⟨ns, rfl, hn, w⟩ := w
    cases ix with
    | tup h q =>
      have e := q.ints
      subst e
      exact ⟨_, ns, n, rfl, rfl, gk_ex.t h.sq, hn, k _ _ _ _ _ w r Mv.refl (.int _)⟩
  · exact w.elim
/-! ### slices, ranges -/
def cutD (xs : List D) (lo hi : Option Int) : List D := (xs.drop (HT.sIx xs.length 0 lo)).take (HT.sIx xs.length xs.length hi - HT.sIx xs.length 0 lo)
abbrev DO := Gam → Mem → (Option Int → Mem → Prop) → ZD → Prop
def canO (C : Cfg) (W : WX) (w : DO) : TO := fun σ H Q => ∃ α Γ μ R Z, Rl C α σ H Γ μ ∧ w Γ μ R Z ∧ (∀ o α' μ' H', R o μ' → Rl C α' σ H' Γ μ' → Mv C α μ H α' μ' H' → Q o H') ∧ Kz C W α H μ Z
def DOp (X : Cx) (C : Cfg) (W : WX) (e : Option Expr) (w : DO) : Prop := PO X e (canO C W w)
def wNoP : DO := fun _ μ R _ => R none μ
def wPt (wa : DX) : DO := fun Γ μ R Z => wa Γ μ (fun d μ1 => match d with | .int i => R (some i) μ1 | _ => False) Z
theorem do_none : DOp X C W none wNoP := ⟨fun pins s σ H Q I ⟨α, Γ, μ, R, Z, r, w, k, z⟩ => po_none.run pins s σ H Q I (k none α μ H w r Mv.refl)⟩
theorem do_some (h : DE X C W a wa) : DOp X C W (some a) (wPt wa) := ⟨fun pins s σ H Q I ⟨α, Γ, μ, R, Z, r, w, k, z⟩ => (po_some h).run pins s σ H Q I ⟨α, Γ, μ, _, Z, r, w, fun d v α1 μ1 H1 w1 r1 m1 i1 => by
    cases d <;> first | exact w1.elim | skip
    cases i1
    exact ⟨_, rfl, k _ _ _ _ w1 r1 m1⟩, z⟩⟩
def wSl (we : DX) (wl wu : DO) : DX := fun Γ μ R Z => we Γ μ (fun d μ1 => wl Γ μ1 (fun lo μ2 => wu Γ μ2 (fun hi μ3 => match d with
  | .tup xs => R (.tup (cutD xs lo hi)) μ3
  | .lst xs => R (.lst (cutD xs lo hi)) μ3
  | .scr ns => R (.lst (cutD (ns.map .int) lo hi)) μ3
  | _ => False) Z) Z) Z
theorem cutD_is {K : PySem.W.Frag} {S : Sts} {α : List Addr} {G : Hp} {ds : List D} {xs : List V} {lo hi : Option Int} (h : Iss K S α G ds xs) : Iss K S α G (cutD ds lo hi) (cutV xs lo hi) := by
  unfold cutD cutV
  rw [← h.length]
  exact (h.drop _).take _
theorem cutD_whole {ds : List D} {lo hi : Option Int} {n : Nat} (hn : ds.length = n) (h1 : HT.sIx n 0 lo = 0) (h2 : HT.sIx n n hi = n) : cutD ds lo hi = ds := by
  unfold cutD
  rw [hn, h1, h2, Nat.sub_zero, List.drop_zero, ← hn, List.take_length]
theorem de_slice {lo hi : Option Expr} {p2 : Pos} {wl wu : DO} (hK : X.K = C.K) (he : DE X C W e we) (hl : DOp X C W lo wl) (hu : DOp X C W hi wu) : DE X C W (.Subscript e (.Slice lo hi none p2) pos) (wSl we wl wu) :=
  (pe_slice (SlR.or sl_tupF sl_list) he hl hu).imp fun σ H Q ⟨α, Γ, μ, R, Z, r, w, k, z⟩ =>
    ⟨α, Γ, μ, _, Z, r, w, fun d v α1 μ1 H1 w1 r1 m1 i1 => ⟨α1, Γ, μ1, _, Z, r1, w1, fun l α2 μ2 H2 w2 r2 m2 => ⟨α2, Γ, μ2, _, Z, r2, w2, fun u α3 μ3 H3 w3 r3 m3 => by
      rw [hK]
      have m := m1.trans (m2.trans m3)
      have i3 := (m2.trans m3).is i1
      cases i3 with
      | tup h q =>
        refine .inl ⟨_, _, rfl, gk_ex.t h.sq, fun hw => ?_, fun hw p ob hp ho => ?_⟩
        · refine k _ _ _ _ _ w3 r3 m ?_
          rw [cutD_whole q.length hw.1 hw.2]
          exact .tup h q
        · obtain ⟨r4, m4, i4⟩ := r3.tup hp ho (cutD_is q)
          exact k _ _ _ _ _ w3 r4 (m.trans m4) i4
      | lst h q =>
        refine .inr ⟨_, _, rfl, SqL.of (gk_ex _ _ h), fun p hp => ?_⟩
        obtain ⟨r4, m4, i4⟩ := r3.lst hp (cutD_is q)
        exact k _ _ _ _ _ w3 r4 (m.trans m4) i4
      | scr h =>
        refine .inr ⟨_, _, rfl, gk_ex.l h, fun p hp => ?_⟩
        obtain ⟨r4, m4, i4⟩ := r3.lst hp (cutD_is (Iss.of_ints _))
        exact k _ _ _ _ _ w3 r4 (m.trans m4) i4
      | _ => exact w3.elim, z.mv (m1.trans m2)⟩, z.mv m1⟩, z⟩
def wRev (we : DX) : DX := fun Γ μ R Z => we Γ μ (fun d μ1 => match d with | .tup xs => R (.tup xs.reverse) μ1 | _ => False) Z
theorem de_rev {k : Nat} {p1 p2 p3 : Pos} (hK : X.K = C.K) (he : DE X C W e we) : DE X C W (.Subscript e (.Slice none none (some (.UnaryOp .USub (.Constant (.int 1) k p1) p2)) p3) pos) (wRev we) := (pe_revF he).imp fun σ H Q ⟨α, Γ, μ, R, Z, r, w, k, z⟩ =>
  ⟨α, Γ, μ, _, Z, r, w, fun d v α1 μ1 H1 w1 r1 m1 i1 => by
    rw [hK]
    cases i1 with
    | tup h q =>
      refine ⟨_, _, rfl, gk_ex.t h.sq, fun p ob hp ho => ?_⟩
      obtain ⟨r4, m4, i4⟩ := r1.tup hp ho q.reverse
      exact k _ _ _ _ _ w1 r4 (m1.trans m4) i4
    | _ => exact w1.elim, z⟩
theorem rgOk_of {m n : Int} (h1 : rgOk m) (h2 : rgOk n) : RgOk m n := ⟨by have := h1.1; omega, by have := h1.2; omega, by have := h2.1; omega, by have := h2.2; omega, by have := h1.1; have := h2.2; omega⟩
/-- tuple(range(..)), list(range(..)) -/
def rgM (f : List D → Mem → RD → Prop) (ds : List D) (μ1 : Mem) (R : RD) : Prop := match ds with
  | [.int n] => rgOk n ∧ f (rgD 0 n) μ1 R
  | [.int m, .int n] => (rgOk m ∧ rgOk n) ∧ f (rgD m n) μ1 R
  | _ => False
def wRgs (f : List D → Mem → RD → Prop) (was : DA) : DX := fun Γ μ R Z => was Γ μ (fun ds μ1 => rgM f ds μ1 R) Z
def fTupR : List D → Mem → RD → Prop := fun ds μ R => R (.tup ds) μ
def fLstR : List D → Mem → RD → Prop := fun ds μ R => R (.lst ds) μ
def fLstRM : List D → Mem → RD → Prop := fun ds μ R => R (.mt μ.length) (μ ++ [.lst ds])
/-- a range as an argument, by its ends -/
def tRgA (t : TA) : L2.St → Hp → (Int → Int → Hp → Prop) → Prop := fun σ H Q => t σ H fun vs H1 => (∃ n, vs = [.int n] ∧ Q 0 n H1) ∨ ∃ m n, vs = [.int m, .int n] ∧ Q m n H1
theorem rgA1 (h : PRg X e (tRg1 (canE C W wa))) : PRg X e (tRgA (canA C W (wCons wa wNil))) := fun pins s σ H Q I ⟨α, Γ, μ, R, Z, r, w, k, z⟩ => h pins s σ H Q I
  ⟨α, Γ, μ, _, Z, r, w, (fun d v α1 μ1 H1 w1 r1 m1 i1 => (by
    rcases k [d] [v] α1 μ1 H1 w1 r1 m1 (.cons i1 .nil) with ⟨n, e, q⟩ | ⟨m, n, e, q⟩
    · cases e; exact ⟨n, rfl, q⟩
    · cases e)), z⟩
theorem rgA2 (h : PRg X e (tRg2 (canE C W wa) (canE C W wb))) : PRg X e (tRgA (canA C W (wCons wa (wCons wb wNil)))) := fun pins s σ H Q I ⟨α, Γ, μ, R, Z, r, w, k, z⟩ => h pins s σ H Q I
  ⟨α, Γ, μ, _, Z, r, w, fun d v α1 μ1 H1 w1 r1 m1 i1 => ⟨α1, Γ, μ1, _, Z, r1, w1, (fun d' v' α2 μ2 H2 w2 r2 m2 i2 => (by
    rcases k [d, d'] [v, v'] α2 μ2 H2 w2 r2 (m1.trans m2) (.cons (m2.is i1) (.cons i2 .nil)) with ⟨n, e, q⟩ | ⟨m, n, e, q⟩
    · cases e
    · cases e; exact ⟨m, n, rfl, rfl, q⟩)), z.mv m1⟩, z⟩
theorem rg_go {α : List Addr} {ds : List D} {vs : List V} {μ1 : Mem} {G : Hp} {K : PySem.W.Frag} {S : Sts} {R : RD} {f : List D → Mem → RD → Prop} {Q : Int → Int → Prop} (i1 : Iss K S α G ds vs)
    (w1 : rgM f ds μ1 R) (k : ∀ m n, RgOk m n → f (rgD m n) μ1 R → Q m n) :
    (∃ n, vs = [.int n] ∧ Q 0 n) ∨ ∃ m n, vs = [.int m, .int n] ∧ Q m n := by
  unfold rgM at w1
  split at w1
  · rename_i n
    obtain ⟨v, rfl, h⟩ := iss1 i1
    cases h
    exact .inl ⟨n, rfl, k 0 n (rgOk_of ⟨by decide, by decide⟩ w1.1) w1.2⟩
  · rename_i m n
    obtain ⟨v, u, rfl, h, h2⟩ := iss2 i1
    cases h
    cases h2
    exact .inr ⟨m, n, rfl, k m n (rgOk_of w1.1.1 w1.1.2) w1.2⟩
  · exact w1.elim
theorem de_tupRg (hc : X.calm = true) (hg : Gl X "tuple") (hm : X.mg "tuple" = none) (he : PRg X e (tRgA (canA C W was))) (na : starEach [e] X.env = (false, eval e X.env) :: starEach [] X.env := by rfl) : DE X C W (.Call (.Name "tuple" p) [e] [] pos) (wRgs fTupR was) :=
  (pe_tupRgF hc hg hm he na).imp fun σ H Q ⟨α, Γ, μ, R, Z, r, w, k, z⟩ => ⟨α, Γ, μ, _, Z, r, w, fun ds vs α1 μ1 H1 w1 r1 m1 i1 => rg_go (Q := fun m n => RgOk m n ∧ NewT (rgV m n) H1 Q) i1 w1 fun m n ok w2 => ⟨ok, fun p ob hp ho => by
    obtain ⟨r4, m4, i4⟩ := r1.tup hp ho (rgD_is (lo := m) (hi := n))
    exact k _ _ _ _ _ w2 r4 (m1.trans m4) i4⟩, z⟩
theorem de_lstRg (hc : X.calm = true) (hg : Gl X "list") (hm : X.mg "list" = none) (he : PRg X e (tRgA (canA C W was))) (na : starEach [e] X.env = (false, eval e X.env) :: starEach [] X.env := by rfl) : DE X C W (.Call (.Name "list" p) [e] [] pos) (wRgs fLstR was) :=
  (pe_listRg hc hg hm he na).imp fun σ H Q ⟨α, Γ, μ, R, Z, r, w, k, z⟩ => ⟨α, Γ, μ, _, Z, r, w, fun ds vs α1 μ1 H1 w1 r1 m1 i1 => rg_go (Q := fun m n => RgOk m n ∧ ∀ q, H1 q = none → Q (.ref q) (upd H1 q (.lst (rgV m n)))) i1 w1 fun m n ok w2 => ⟨ok, fun p hp => by
    obtain ⟨r4, m4, i4⟩ := r1.lst hp (rgD_is (lo := m) (hi := n))
    exact k _ _ _ _ _ w2 r4 (m1.trans m4) i4⟩, z⟩
theorem de_lstRgM (hc : X.calm = true) (hg : Gl X "list") (hm : X.mg "list" = none) (he : PRg X e (tRgA (canA C W was))) (na : starEach [e] X.env = (false, eval e X.env) :: starEach [] X.env := by rfl) : DE X C W (.Call (.Name "list" p) [e] [] pos) (wRgs fLstRM was) :=
  (pe_listRg hc hg hm he na).imp fun σ H Q ⟨α, Γ, μ, R, Z, r, w, k, z⟩ => ⟨α, Γ, μ, _, Z, r, w, fun ds vs α1 μ1 H1 w1 r1 m1 i1 => rg_go (Q := fun m n => RgOk m n ∧ ∀ q, H1 q = none → Q (.ref q) (upd H1 q (.lst (rgV m n)))) i1 w1 fun m n ok w2 => ⟨ok, fun p hp => by
    obtain ⟨r4, m4, i4⟩ := r1.mlst hp (rgD_is (lo := m) (hi := n))
    exact k _ _ _ _ _ w2 r4 (m1.trans m4) i4⟩, z⟩
end
end TC

set_option Elab.async false
set_option linter.all false
set_option maxRecDepth 100000
set_option maxHeartbeats 2000000
namespace TC
open PySem PySem.Spec PyProof.Rows L2
/-! ### pure data: no mutable thing within -/
mutual
def D.pure : D → Bool
  | .tup ds => pures ds
  | .lst ds => pures ds
  | .dk _ ds => pures ds
  | .dt _ ds => pures ds
  | .mt _ => false
  | _ => true
def pures : List D → Bool
  | [] => true
  | d :: ds => d.pure && pures ds
end
mutual
theorem Is.any {K : PySem.W.Frag} {S : Sts} {α β : List Addr} {G : Hp} : ∀ (d : D) (v : V), Is K S α G d v → d.pure = true → Is K S β G d v
  | .non, v, h, q => by cases h; exact .non
  | .bl b, v, h, q => by cases h; exact .bl b
  | .int i, v, h, q => by cases h; exact .int i
  | .str x, v, h, q => by cases h; exact .str x
  | .tup ds, v, h, q => by
    cases h with
    | tup h r => exact .tup h (Iss.any ds _ r q)
  | .lst ds, v, h, q => by
    cases h with
    | lst h r => exact .lst h (Iss.any ds _ r q)
  | .dk _ ds, v, h, q => by
    cases h with
    | dk h l r => exact .dk h l (Iss.any ds _ r q)
  | .dt _ ds, v, h, q => by
    cases h with
    | dt h l r => exact .dt h l (Iss.any ds _ r q)
  | .scr _, v, h, q => by
    cases h with
    | scr h => exact .scr h
  | .ty _, v, h, q => by cases h; exact .ty _
  | .own _, v, h, q => by cases h; exact .own _
  | .exc _, v, h, q => by
    cases h with
    | exc h => exact .exc h
  | .mt _, v, h, q => by cases q
  | .st, v, h, q => by
    cases h with
    | st h => exact .st h
theorem Iss.any {K : PySem.W.Frag} {S : Sts} {α β : List Addr} {G : Hp} : ∀ (ds : List D) (vs : List V), Iss K S α G ds vs → pures ds = true → Iss K S β G ds vs
  | [], vs, h, q => by cases h; exact .nil
  | d :: ds, vs, h, q => by
    cases h with
    | cons h r =>
      have q : (d.pure && pures ds) = true := q
      rw [Bool.and_eq_true] at q
      exact .cons (Is.any d _ h q.1) (Iss.any ds _ r q.2)
end
/-! ### defs -/
abbrev SpD := List D → (D → Prop) → (Addr → Prop) → Prop
structure CfgOk (C : Cfg) : Prop where
  dom : ∀ a, C.N0 a = true → C.H0 a ≠ none
  sN : ∀ a, inS C.S a → C.N0 a = true
  st : StOk C.S C.H0
/-- the promise in the layer's own words -/
def toSp (K : PySem.W.Frag) (n : Nat) (f : SpD) : Sp := fun vs H Q E => vs.length = n ∧ ∃ (C : Cfg) (ds : List D) (R : D → Prop) (Z : Addr → Prop), C.K = K ∧ C.H0 = H ∧ CfgOk C ∧ Iss K C.S [] (gk C [] [] H) ds vs ∧ f ds R Z ∧
  (∀ d v H', R d → (∀ a o, H a = some o → ¬ inS C.S a → H' a = some o) → StOk C.S H' → Is K C.S [] (gk C [] [] H') d v → Q v H') ∧
  (∀ cl H', Z cl → (∀ a o, H a = some o → ¬ inS C.S a → H' a = some o) → StOk C.S H' → E (.ref cl) none H')
def gam0 (n : Nat) (ds : List D) : Gam := ds.map some ++ List.replicate (n - ds.length) none
theorem hid0 {C : Cfg} {a : Addr} : Hid C [] [] a ↔ C.N0 a = true := by
  constructor
  · rintro (h | ⟨k, h, _⟩)
    · exact h
    · simp at h
  · exact .inl
theorem gk_le {C : Cfg} {α : List Addr} {μ : Mem} {H : Hp} : Ex (gk C α μ H) (gk C [] [] H) := fun a o h => by
  obtain ⟨h1, h2⟩ := gk_at h
  exact gk_of h1 fun z => h2 (.inl (hid0.mp z))
theorem start_rl {C : Cfg} (ok : CfgOk C) {N : List Str} {ds : List D} {vs : List V} (h : Iss C.K C.S [] (gk C [] [] C.H0) ds vs) : Rl C [] (L2.start N vs) C.H0 (gam0 N.length ds) [] where
  keep := fun a o h _ => h
  dom := ok.dom
  sN := ok.sN
  new := fun a h => by cases h
  nd := .nil
  there := fun a h => by cases h
  len := rfl
  cells := fun k a c h _ => by simp at h
  st := ok.st
  slen := by unfold gam0 L2.start; simp [h.length]
  env := fun i d q => by
    unfold gam0 at q
    unfold L2.start
    by_cases hi : i < ds.length
    · rw [List.getElem?_append_left (by simpa using hi), List.getElem?_map] at q
      cases e : ds[i]? with
      | none => rw [e] at q; cases q
      | some d' =>
        rw [e] at q
        cases q
        obtain ⟨v, h1, h2⟩ := h.get e
        refine ⟨v, ?_, h2⟩
        rw [List.getElem?_append_left (by rw [List.length_map, ← h.length]; exact hi), List.getElem?_map, h1]
        rfl
    · rw [List.getElem?_append_right (by simpa using Nat.le_of_not_lt hi)] at q
      have := List.mem_of_getElem? q
      have := (List.mem_replicate.mp this).2
      cases this
section
variable {P : Program} {w : World} {K : PySem.W.Frag} {mg : Str → Option Value} {base : Heap}
/-- a def: its body at the data level -/
theorem fn_ok {x qual : Str} {st : Stmt} {f : Addr} {fd : FuncData} {N ps : List Str} {k n : Nat} {sp : SpD} {wb : DS} (F : Fun K x qual st f fd) (S : FnScope N ps (defScope st)) (hn : ps.length = n)
    (body : ∀ (S : Sts) (N0 : Addr → Bool) (H0 : Hp) (cdv : Value) (A : Around) (outer : List Env) (s : Shared) (H : Hp) (E : XK), Room k (A.deeper (envOfC qual (defScope st) s.heap.objs.size f cdv)) →
      DSs (cxOf (L2.CX P w) P w K mg base N qual (defScope st) f cdv A outer s H E) ⟨K, S, N0, H0⟩ (fun cls d _ H => E cls d H) (defBody st) wb)
    (sound : ∀ ds R Z, ds.length = n → sp ds R Z → wb (gam0 N.length ds) [] ⟨fun _ _ => R .non, fun d _ => d.pure = true ∧ R d, fun _ _ => False, fun _ _ => False, fun cl _ _ => Z cl⟩) :
    FnOk P w K mg base (L2.CX P w) (k + 1) f fd ps (toSp K n sp) := by
  refine F.okX S (fun vs H Q E h => by rw [hn]; exact h.1) fun cdv A outer s H vs Q E hr h => ?_
  obtain ⟨hl, ⟨K', S', N0, H0⟩, ds, R, Z, eK, eH, ok, is, hsp, hq, he⟩ := h
  have eK : K' = K := eK
  have eH : H0 = H := eH
  subst eK eH
  refine ⟨_, body S' N0 H0 cdv A outer s H0 E hr, ?_⟩
  have r := start_rl (N := N) ok is
  refine ⟨[], _, [], _, r, sound ds R Z (by rw [is.length]; exact hl) hsp, ?_, ?_, ?_, ?_, ?_⟩
  · intro α' Γ' μ' σ' H' w' r' m'
    exact hq .non .non H' w' r'.keep r'.st .non
  · intro d v α' Γ' μ' σ' H' w' r' m' i'
    exact hq d v H' w'.2 r'.keep r'.st ((Is.any d v i' w'.1).mono gk_le fun _ _ q => q)
  · intro α' Γ' μ' σ' H' w'
    exact w'.elim
  · intro α' Γ' μ' σ' H' w'
    exact w'.elim
  · intro cl α' Γ' μ' σ' H' w' r' m'
    exact he cl H' w' r'.keep r'.st
end
/-! ### calls of defs -/
theorem Rl.call {C : Cfg} {α : List Addr} {σ : L2.St} {H H' : Hp} {Γ : Gam} {μ : Mem} (r : Rl C α σ H Γ μ) (k : ∀ a o, H a = some o → ¬ inS C.S a → H' a = some o) (st : StOk C.S H') : Rl C α σ H' Γ μ ∧ Mv C α μ H α μ H' := by
  have nS : ∀ a ∈ α, ¬ inS C.S a := fun a ha z => r.dom a (r.sN a z) (r.new a ha)
  have mv : Mv C α μ H α μ H' := ⟨fun _ _ q => q, fun a o q => by
    obtain ⟨h1, h2⟩ := gk_at q
    exact gk_of (k a o h1 fun z => h2 (.inl (r.sN a z))) h2⟩
  refine ⟨⟨fun a o h n => k a o (r.keep a o h n) n, r.dom, r.sN, r.new, r.nd, fun a ha => ?_, r.len, fun j a c h1 h2 => ?_, st, r.slen, fun i d q => ?_⟩, mv⟩
  · cases q : H a with
    | none => exact absurd q (r.there a ha)
    | some o =>
      rw [k a o q (nS a ha)]
      exact fun q => nomatch q
  · exact (r.cells j a c h1 h2).mono mv.ex (fun _ _ q => q) fun o q => k a o q (nS a (List.mem_of_getElem? h1))
  · obtain ⟨v, h1, h2⟩ := r.env i d q
    exact ⟨v, h1, mv.is h2⟩
open Classical in
theorem sub_cfg {C : Cfg} {α : List Addr} {σ : L2.St} {H : Hp} {Γ : Gam} {μ : Mem} (r : Rl C α σ H Γ μ) :
    ∃ C' : Cfg, C'.K = C.K ∧ C'.S = C.S ∧ C'.H0 = H ∧ CfgOk C' ∧ ∀ H', gk C' [] [] H' = gk C α μ H' := by
  refine ⟨⟨C.K, C.S, fun a => decide (Hid C α μ a), H⟩, rfl, rfl, rfl, ⟨fun a h => r.alive (of_decide_eq_true h), fun a h => decide_eq_true (.inl (r.sN a h)), r.st⟩, fun H' => ?_⟩
  funext a
  have e : Hid ⟨C.K, C.S, fun a => decide (Hid C α μ a), H⟩ [] [] a ↔ Hid C α μ a := hid0.trans (by simp)
  unfold gk
  by_cases h : Hid C α μ a
  · rw [if_pos h, if_pos (e.mpr h)]
  · rw [if_neg h, if_neg fun z => h (e.mp z)]
section
variable {X : Cx} {C : Cfg} {W : WX} {e : Expr} {es : List Expr} {was : DA} {pos p : Pos}
def wCall (n : Nat) (f : SpD) (was : DA) : DX := fun Γ μ R Z => was Γ μ (fun ds μ1 => (ds.length = n ∧ pures ds = true) ∧ f ds (fun d => R d μ1) fun cl => Z cl Γ μ1) Z
theorem de_call {f : Addr} {fd : FuncData} {k n : Nat} {ps : List Str} {sp : SpD} {x : Str} (hK : X.K = C.K) (tk : Takes X W) (F : FnOk X.prog X.w X.K X.mg X.base (L2.CX X.prog X.w) k f fd ps (toSp X.K n sp)) (hr : Room k X.A) (hg : Gl X x) (hm : X.mg x = some (.ref f))
    (hk : PySem.W.keepIn X.K (.ref f) = true) (hb : Binds X.K fd ps []) (ha : DAs X C W (e :: es) was)
    (hdb : (x == ("__debug__" : Str)) = false := by decide) (he : starEach (e :: es) X.env = (false, eval e X.env) :: starEach es X.env := by rfl) (hpl : (backTo pos (starEach es X.env)).any (·.1) = false := by rfl) :
    DE X C W (.Call (.Name x p) (e :: es) [] pos) (wCall n sp was) :=
  (pe_callS F hr hg hm hk hb (fun σ => passAt tk σ) ha hdb he hpl).imp fun σ H Q ⟨α, Γ, μ, R, Z, r, w, k, z⟩ => by
    refine ⟨α, Γ, μ, _, Z, r, w, fun ds vs α1 μ1 H1 w1 r1 m1 i1 => ?_, z⟩
    obtain ⟨⟨hds, hp⟩, w1⟩ := w1
    obtain ⟨C', e1, e2, e3, ok, eg⟩ := sub_cfg r1
    refine ⟨by rw [← i1.length]; exact hds, C', ds, fun d => R d μ1, fun cl => Z cl Γ μ1, e1.trans hK.symm, e3, ok, ?_, w1, fun d v H' hd kk st is => ?_, fun cl H' hz kk st => ?_⟩
    · rw [hK, e2, eg]
      exact Iss.any ds vs i1 hp
    · rw [e2] at kk st
      rw [hK, e2, eg] at is
      obtain ⟨r2, m2⟩ := r1.call kk st
      exact k d v α1 μ1 H' hd r2 (m1.trans m2) (is.mono (Ex.refl _) fun k a q => by simp at q)
    · rw [e2] at kk st
      obtain ⟨r2, m2⟩ := r1.call kk st
      exact z cl α1 Γ μ1 σ H' hz r2 (m1.trans m2)
end
end TC

set_option Elab.async false
set_option linter.all false
set_option maxRecDepth 100000
set_option maxHeartbeats 2000000
namespace TC
open PySem PySem.Spec PyProof.Rows L2
mutual
def D.bel (n : Nat) : D → Bool
  | .tup ds => bels n ds
  | .lst ds => bels n ds
  | .dk _ ds => bels n ds
  | .dt _ ds => bels n ds
  | .mt k => decide (k < n)
  | _ => true
def bels (n : Nat) : List D → Bool
  | [] => true
  | d :: ds => d.bel n && bels n ds
end
mutual
theorem Is.bel {K : PySem.W.Frag} {S : Sts} {α : List Addr} {G : Hp} : ∀ (d : D) (v : V), Is K S α G d v → d.bel α.length = true
  | .non, v, h => rfl
  | .bl b, v, h => rfl
  | .int i, v, h => rfl
  | .str x, v, h => rfl
  | .tup ds, v, h => by
    cases h with
    | tup h r => exact Iss.bel ds _ r
  | .lst ds, v, h => by
    cases h with
    | lst h r => exact Iss.bel ds _ r
  | .dk _ ds, v, h => by
    cases h with
    | dk h l r => exact Iss.bel ds _ r
  | .dt _ ds, v, h => by
    cases h with
    | dt h l r => exact Iss.bel ds _ r
  | .scr _, v, h => rfl
  | .ty _, v, h => rfl
  | .own _, v, h => rfl
  | .exc _, v, h => rfl
  | .mt k, v, h => by
    cases h with
    | mt h => exact decide_eq_true (List.getElem?_eq_some_iff.mp h).1
  | .st, v, h => rfl
theorem Iss.bel {K : PySem.W.Frag} {S : Sts} {α : List Addr} {G : Hp} : ∀ (ds : List D) (vs : List V), Iss K S α G ds vs → bels α.length ds = true
  | [], vs, h => rfl
  | d :: ds, vs, h => by
    cases h with
    | cons h r =>
      show (d.bel α.length && bels α.length ds) = true
      rw [Is.bel d _ h, Iss.bel ds _ r]
      rfl
end
mutual
theorem Is.cut {K : PySem.W.Frag} {S : Sts} {α β : List Addr} {G : Hp} : ∀ (d : D) (v : V), Is K S (α ++ β) G d v → d.bel α.length = true → Is K S α G d v
  | .non, v, h, q => by cases h; exact .non
  | .bl b, v, h, q => by cases h; exact .bl b
  | .int i, v, h, q => by cases h; exact .int i
  | .str x, v, h, q => by cases h; exact .str x
  | .tup ds, v, h, q => by
    cases h with
    | tup h r => exact .tup h (Iss.cut ds _ r q)
  | .lst ds, v, h, q => by
    cases h with
    | lst h r => exact .lst h (Iss.cut ds _ r q)
  | .dk _ ds, v, h, q => by
    cases h with
    | dk h l r => exact .dk h l (Iss.cut ds _ r q)
  | .dt _ ds, v, h, q => by
    cases h with
    | dt h l r => exact .dt h l (Iss.cut ds _ r q)
  | .scr _, v, h, q => by
    cases h with
    | scr h => exact .scr h
  | .ty _, v, h, q => by cases h; exact .ty _
  | .own _, v, h, q => by cases h; exact .own _
  | .exc _, v, h, q => by
    cases h with
    | exc h => exact .exc h
  | .mt k, v, h, q => by
    cases h with
    | mt h =>
      have q : decide (k < α.length) = true := q
      rw [List.getElem?_append_left (of_decide_eq_true q)] at h
      exact .mt h
  | .st, v, h, q => by
    cases h with
    | st h => exact .st h
theorem Iss.cut {K : PySem.W.Frag} {S : Sts} {α β : List Addr} {G : Hp} : ∀ (ds : List D) (vs : List V), Iss K S (α ++ β) G ds vs → bels α.length ds = true → Iss K S α G ds vs
  | [], vs, h, q => by cases h; exact .nil
  | d :: ds, vs, h, q => by
    cases h with
    | cons h r =>
      have q : (d.bel α.length && bels α.length ds) = true := q
      rw [Bool.and_eq_true] at q
      exact .cons (Is.cut d _ h q.1) (Iss.cut ds _ r q.2)
end
def wipeG (Γ : Gam) : List Nat → Gam
  | [] => Γ
  | v :: vs => (wipeG Γ vs).set v none
section
variable {C : Cfg} {α : List Addr} {σ : L2.St} {H H' : Hp} {Γ : Gam} {μ : Mem}
theorem Rl.wipe (r : Rl C α σ H Γ μ) : ∀ vs : List Nat, Rl C α (L2.wipe σ vs) H (wipeG Γ vs) μ
  | [] => r
  | v :: vs => (Rl.wipe r vs).setn
theorem Rl.senv {σ' : L2.St} {Γ' : Gam} (r : Rl C α σ H Γ μ) (hl : Γ'.length = σ'.length) (he : ∀ (i : Nat) d, Γ'[i]? = some (some d) → ∃ v, σ'[i]? = some (some v) ∧ Is C.K C.S α (gk C α μ H) d v) : Rl C α σ' H Γ' μ where
  keep := r.keep
  dom := r.dom
  sN := r.sN
  new := r.new
  nd := r.nd
  there := r.there
  len := r.len
  cells := r.cells
  st := r.st
  slen := hl
  env := he
/-- the last mutable thing is left: it is at rest -/
theorem Rl.drop {p : Addr} {acc : List D} {σ' : L2.St} {Γ' : Gam} (r : Rl C α σ H Γ μ) (hp : H p = none) (r' : Rl C (α ++ [p]) σ' H' Γ' (μ ++ [Cell.lst acc])) (m : Mv C α μ H (α ++ [p]) (μ ++ [Cell.lst acc]) H') (hb : pures acc = true) :
    Rl C α σ H' Γ μ ∧ Mv C α μ H α μ H' ∧ Is C.K C.S α (gk C α μ H') (.lst acc) (.ref p) := by
  have le : Ex (gk C (α ++ [p]) (μ ++ [Cell.lst acc]) H') (gk C α μ H') := fun a o q => by
    obtain ⟨h1, h2⟩ := gk_at q
    refine gk_of h1 fun z => h2 ?_
    exact (Hid.grow r.len (show Cell.lst acc ≠ .dead from fun q => nomatch q)).mpr (.inl z)
  have mv : Mv C α μ H α μ H' := ⟨fun _ _ q => q, m.ex.trans le⟩
  refine ⟨⟨r'.keep, r.dom, r.sN, r.new, r.nd, fun a ha => r'.there a (List.mem_append_left _ ha), r.len, fun k a c h1 h2 => ?_, r'.st, r.slen, fun i d q => ?_⟩, mv, ?_⟩
  · have hk := (List.getElem?_eq_some_iff.mp h1).1
    have hk' := (List.getElem?_eq_some_iff.mp h2).1
    have x' := r'.cells k a c (by rw [List.getElem?_append_left hk]; exact h1) (by rw [List.getElem?_append_left hk']; exact h2)
    have x := r.cells k a c h1 h2
    cases c with
    | dead => trivial
    | any => trivial
    | lst ds =>
      obtain ⟨_, _, b⟩ := x
      obtain ⟨xs, e1, e2⟩ := x'
      exact ⟨xs, e1, (Iss.cut ds _ e2 (Iss.bel ds _ b)).mono le fun _ _ q => q⟩
    | dk ks ds =>
      obtain ⟨_, _, _, b⟩ := x
      obtain ⟨xs, e1, e3, e2⟩ := x'
      exact ⟨xs, e1, e3, (Iss.cut ds _ e2 (Iss.bel ds _ b)).mono le fun _ _ q => q⟩
    | dt ks ds =>
      obtain ⟨_, _, _, _, b⟩ := x
      obtain ⟨m, vs, e1, e3, e2⟩ := x'
      exact ⟨m, vs, e1, ⟨e3.1, fun x hx => le.tupd (e3.2.1 x hx), e3.2.2⟩, (Iss.cut ds _ e2 (Iss.bel ds _ b)).mono le fun _ _ q => q⟩
  · obtain ⟨v, h1, h2⟩ := r.env i d q
    exact ⟨v, h1, (Is.cut d v (m.is h2) (Is.bel d v h2)).mono le fun _ _ q => q⟩
  · obtain ⟨xs, e1, e2⟩ := r'.cells α.length p (.lst acc) (by simp) (by rw [r.len]; simp)
    refine .lst (gk_of e1 (r.free hp)) ?_
    exact (Iss.any acc xs e2 hb).mono le fun k a q => q
theorem pures_append : ∀ {ds es : List D}, pures ds = true → pures es = true → pures (ds ++ es) = true
  | [], es, _, h => h
  | d :: ds, es, h, q => by
    have h : (d.pure && pures ds) = true := h
    rw [Bool.and_eq_true] at h
    show (d.pure && pures (ds ++ es)) = true
    rw [h.1, pures_append h.2 q]
    rfl
end
abbrev W0 : WX := fun _ _ _ _ => False
def Z0 : ZD := fun _ _ _ => False
def wLcL (tf : D → Gam → Option Gam) (wt : DT) (we : DX) : List D → List D → Gam → Mem → (List D → Mem → Prop) → Prop
  | [], acc, _, μ, R => R acc μ
  | x :: xs, acc, Γw, μ, R => match tf x Γw with
    | some Γ1 => wt Γ1 (μ ++ [Cell.lst acc]) (fun b μ1 => μ1 = μ ++ [Cell.lst acc] ∧ if b = true then
        we Γ1 (μ ++ [Cell.lst acc]) (fun d μ2 => μ2 = μ ++ [Cell.lst acc] ∧ d.pure = true ∧ wLcL tf wt we xs (acc ++ [d]) Γw μ R) Z0 else wLcL tf wt we xs acc Γw μ R) Z0
    | none => False
def wLc (tf : D → Gam → Option Gam) (ws : DA) (wt : DT) (we : DX) (vs : List Nat) : DX := fun Γ μ R Z => ws Γ μ (fun ds μ1 => ds.length ≤ big ∧ wLcL tf wt we ds [] (wipeG Γ vs) μ1 fun acc μ2 => R (.lst acc) μ2) Z
def wLcM (tf : D → Gam → Option Gam) (ws : DA) (wt : DT) (we : DX) (vs : List Nat) : DX := fun Γ μ R Z => ws Γ μ (fun ds μ1 => ds.length ≤ big ∧ wLcL tf wt we ds [] (wipeG Γ vs) μ1 fun acc μ2 => R (.mt μ2.length) (μ2 ++ [Cell.lst acc])) Z
section
variable {X : Cx} {C : Cfg} {W : WX} {elt tg iter : Expr} {ifs : List Expr} {scope : Scope} {own : List (Str × Nat)} {pos : Pos} {g : TG} {tf : D → Gam → Option Gam} {ws : DA} {wt : DT} {we : DX} {vs : List Nat}
/-- a name of the comprehension's own -/
structure OwnG (C : Cfg) (g : TG) (tf : D → Gam → Option Gam) (vs : List Nat) : Prop where
  go : ∀ α σ H Γ μ d v (Q : L2.St → Hp → Prop) Γ', Rl C α (L2.wipe σ vs) H (wipeG Γ vs) μ → Is C.K C.S α (gk C α μ H) d v → tf d (wipeG Γ vs) = some Γ' → (∀ σ', Rl C α σ' H Γ' μ → L2.wipe σ' vs = L2.wipe σ vs → Q σ' H) → g v (L2.wipe σ vs) H Q
theorem lc_main {σ : L2.St} {H : Hp} {Q : VK} (og : OwnG C g tf vs) (fin : List D → Mem → RD → Prop)
    (hf : ∀ {α : List Addr} {H H' : Hp} {Γ : Gam} {μ : Mem} {p : Addr} {acc : List D} {σ' : L2.St} {Γ' : Gam} {R : RD}, Rl C α σ H Γ μ → H p = none → Rl C (α ++ [p]) σ' H' Γ' (μ ++ [Cell.lst acc]) → Mv C α μ H (α ++ [p]) (μ ++ [Cell.lst acc]) H' → pures acc = true → fin acc μ R →
      ∃ d α' μ', R d μ' ∧ Rl C α' σ H' Γ μ' ∧ Mv C α μ H α' μ' H' ∧ Is C.K C.S α' (gk C α' μ' H') d (.ref p))
    (h : canE C W (fun Γ μ R Z => ws Γ μ (fun ds μ1 => ds.length ≤ big ∧ wLcL tf wt we ds [] (wipeG Γ vs) μ1 fun acc μ2 => fin acc μ2 R) Z) σ H Q) :
    tLc (canI C W ws) g (canT C W0 wt) (canE C W0 we) vs σ H Q := by
  obtain ⟨α, Γ, μ, R, Z, r, w, k, z⟩ := h
  refine ⟨α, Γ, μ, _, Z, r, w, fun ds xs J G α1 μ1 H1 w1 r1 m1 i1 k1 g1 Dl hD => ?_, z⟩
  obtain ⟨hz, w1⟩ := w1
  have hlen := i1.length
  refine lc_wk k1 (fun i H' => ∃ acc : List D, Rl C (α1 ++ [Dl]) (L2.wipe σ vs) H' (wipeG Γ vs) (μ1 ++ [Cell.lst acc]) ∧ Mv C α1 μ1 H1 (α1 ++ [Dl]) (μ1 ++ [Cell.lst acc]) H' ∧ pures acc = true ∧ acc.length ≤ i ∧ i ≤ ds.length ∧
    wLcL tf wt we (ds.drop i) acc (wipeG Γ vs) μ1 fun acc μ2 => fin acc μ2 R) ?_ ?_ ?_ ?_
  · obtain ⟨r2, m2, _⟩ := Rl.mlst (r1.wipe vs) hD (ds := []) (xs := []) .nil
    exact ⟨[], r2, m2, rfl, Nat.zero_le _, Nat.zero_le _, w1⟩
  · rintro i H' ⟨acc, _, m, _⟩
    exact g1 _ _ _ m
  · rintro i x H' hx ⟨acc, r2, m2, hp, hl, hi, w2⟩
    obtain ⟨d, hd, id⟩ := i1.get' hx
    obtain ⟨hlt, he⟩ := List.getElem?_eq_some_iff.mp hd
    rw [List.drop_eq_getElem_cons hlt, he] at w2
    have w2 : (match tf d (wipeG Γ vs) with
      | some Γ1 => wt Γ1 (μ1 ++ [Cell.lst acc]) (fun b μ' => μ' = μ1 ++ [Cell.lst acc] ∧ if b = true then
        we Γ1 (μ1 ++ [Cell.lst acc]) (fun d μ2 => μ2 = μ1 ++ [Cell.lst acc] ∧ d.pure = true ∧ wLcL tf wt we (ds.drop (i + 1)) (acc ++ [d]) (wipeG Γ vs) μ1 fun acc μ2 => fin acc μ2 R) Z0 else wLcL tf wt we (ds.drop (i + 1)) acc (wipeG Γ vs) μ1 fun acc μ2 => fin acc μ2 R) Z0
      | none => False) := w2
    split at w2
    · rename_i Γ1 ht
      refine og.go _ σ H' Γ _ d x _ Γ1 r2 (m2.is id) ht fun σ' r3 hw => ⟨hw, ?_⟩
      refine ⟨_, Γ1, _, _, Z0, r3, w2, fun b α4 μ4 H4 w4 r4 m4 => ?_, fun cl α' Γ' μ' σ' H' z _ _ => z⟩
      obtain ⟨em, w4⟩ := w4
      subst em
      have ea : α4 = α1 ++ [Dl] := by
        refine List.ext_getElem? fun n => ?_
        by_cases hn : n < (α1 ++ [Dl]).length
        · rw [List.getElem?_eq_getElem hn]
          exact m4.pre n _ (List.getElem?_eq_getElem hn)
        · rw [List.getElem?_eq_none (Nat.le_of_not_lt hn), List.getElem?_eq_none]
          have l1 := r4.len
          have l2 := r2.len
          omega
      subst ea
      have back : ∀ {Hx : Hp} {acc' : List D}, Rl C (α1 ++ [Dl]) σ' Hx Γ1 (μ1 ++ [.lst acc']) → Mv C (α1 ++ [Dl]) (μ1 ++ [Cell.lst acc]) H' (α1 ++ [Dl]) (μ1 ++ [.lst acc']) Hx → Rl C (α1 ++ [Dl]) (L2.wipe σ vs) Hx (wipeG Γ vs) (μ1 ++ [.lst acc']) := fun {Hx acc'} rx mx =>
        rx.senv r2.slen fun j e q => by
          obtain ⟨v, h1, h2⟩ := r2.env j e q
          exact ⟨v, h1, mx.is h2⟩
      cases b with
      | true =>
        refine ⟨_, Γ1, _, _, Z0, r4, w4, fun d' v' α5 μ5 H5 w5 r5 m5 i5 => ?_, fun cl α' Γ' μ' σ' H' z _ _ => z⟩
        obtain ⟨em, hpd, w5⟩ := w5
        subst em
        have ea : α5 = α1 ++ [Dl] := by
          refine List.ext_getElem? fun n => ?_
          by_cases hn : n < (α1 ++ [Dl]).length
          · rw [List.getElem?_eq_getElem hn]
            exact m5.pre n _ (List.getElem?_eq_getElem hn)
          · rw [List.getElem?_eq_none (Nat.le_of_not_lt hn), List.getElem?_eq_none]
            have l1 := r5.len
            have l2 := r2.len
            omega
        subst ea
        have hk : (α1 ++ [Dl])[α1.length]? = some Dl := by simp
        have hk2 : (μ1 ++ [Cell.lst acc])[α1.length]? = some (.lst acc) := by rw [r1.len]; simp
        obtain ⟨ys, h1, h2⟩ := r5.cells α1.length Dl _ hk hk2
        have hal := h2.length
        refine ⟨ys, h1, by rw [← hal]; exact big_lt (by omega), ?_⟩
        obtain ⟨r6, m6⟩ := r5.write (o := .lst (ys ++ [v'])) (c := .lst (acc ++ [d'])) hk (by rw [hk2]; exact fun q => nomatch q) ⟨_, upd_same, h2.append (.cons i5 .nil)⟩ (fun q => nomatch q)
        have em : (μ1 ++ [Cell.lst acc]).set α1.length (.lst (acc ++ [d'])) = μ1 ++ [Cell.lst (acc ++ [d'])] := by
          rw [r1.len]
          simp
        rw [em] at r6 m6
        have mm := (m4.trans m5).trans m6
        refine ⟨acc ++ [d'], back r6 mm, m2.trans mm, pures_append hp (by show (d'.pure && pures []) = true; rw [hpd]; rfl), by rw [List.length_append, List.length_singleton]; omega, hlt, w5⟩
      | false => exact ⟨acc, back r4 m4, m2.trans m4, hp, by omega, hlt, w4⟩
    · exact w2.elim
  · rintro H' ⟨acc, r2, m2, hp, hl, hi, w2⟩
    rw [← hlen, List.drop_length] at w2
    obtain ⟨d, α', μ', hr, rr, mm, ii⟩ := hf (Γ' := wipeG Γ vs) r1 hD r2 m2 hp w2
    exact k d _ α' μ' H' hr rr (m1.trans mm) ii
theorem fin_l {σ : L2.St} {α : List Addr} {H H' : Hp} {Γ : Gam} {μ : Mem} {p : Addr} {acc : List D} {σ' : L2.St} {Γ' : Gam} {R : RD} (r : Rl C α σ H Γ μ) (hp : H p = none) (r' : Rl C (α ++ [p]) σ' H' Γ' (μ ++ [Cell.lst acc])) (m : Mv C α μ H (α ++ [p]) (μ ++ [Cell.lst acc]) H') (hb : pures acc = true)
    (w : R (.lst acc) μ) : ∃ d α' μ', R d μ' ∧ Rl C α' σ H' Γ μ' ∧ Mv C α μ H α' μ' H' ∧ Is C.K C.S α' (gk C α' μ' H') d (.ref p) := by
  obtain ⟨r2, m2, i2⟩ := Rl.drop r hp r' m hb
  exact ⟨_, α, μ, w, r2, m2, i2⟩
theorem fin_m {σ : L2.St} {α : List Addr} {H H' : Hp} {Γ : Gam} {μ : Mem} {p : Addr} {acc : List D} {σ' : L2.St} {Γ' : Gam} {R : RD} (r : Rl C α σ H Γ μ) (hp : H p = none) (r' : Rl C (α ++ [p]) σ' H' Γ' (μ ++ [Cell.lst acc])) (m : Mv C α μ H (α ++ [p]) (μ ++ [Cell.lst acc]) H') (hb : pures acc = true)
    (w : R (.mt μ.length) (μ ++ [Cell.lst acc])) : ∃ d α' μ', R d μ' ∧ Rl C α' σ H' Γ μ' ∧ Mv C α μ H α' μ' H' ∧ Is C.K C.S α' (gk C α' μ' H') d (.ref p) :=
  ⟨_, α ++ [p], μ ++ [Cell.lst acc], w, r'.senv r.slen (fun j e q => (by
            obtain ⟨v, h1, h2⟩ := r.env j e q
            exact ⟨v, h1, m.is h2⟩)), m, .mt (by rw [← r.len]; simp)⟩
theorem de_lc (hc : X.calm = true) (hN : X.N.Nodup) (hi : DI X C W tg iter ws) (ok : BlkOk X.N X.env.scope scope own) (og : OwnG C g tf (own.map (·.2)))
    (hg : ∀ (s : Shared) (H : Hp) (A : Addr) (cl : List (Str × Addr)) (fp : List Addr), PG (X.blk s H scope (compEnvC scope cl A X.env) fp) tg g)
    (ht : ∀ (s : Shared) (H : Hp) (A : Addr) (cl : List (Str × Addr)) (fp : List Addr), PTs (X.blk s H scope (compEnvC scope cl A X.env) fp) ifs (canT C W0 wt))
    (he : ∀ (s : Shared) (H : Hp) (A : Addr) (cl : List (Str × Addr)) (fp : List Addr), DE (X.blk s H scope (compEnvC scope cl A X.env) fp) C W0 elt we) (hs : ∀ x, foldedSetIterable iter X.env x = pure x := by intro _; rfl) :
    DE X C W (.ListComp elt [⟨tg, iter, ifs, 0⟩] scope pos) (wLc tf ws wt we (own.map (·.2))) :=
  (pe_lc hc hN hi ok hg ht he hs).imp fun σ H Q h => lc_main og (fun acc μ R => R (.lst acc) μ) (fun r hp r' m hb w => fin_l r hp r' m hb w) h
theorem de_lcM (hc : X.calm = true) (hN : X.N.Nodup) (hi : DI X C W tg iter ws) (ok : BlkOk X.N X.env.scope scope own) (og : OwnG C g tf (own.map (·.2)))
    (hg : ∀ (s : Shared) (H : Hp) (A : Addr) (cl : List (Str × Addr)) (fp : List Addr), PG (X.blk s H scope (compEnvC scope cl A X.env) fp) tg g)
    (ht : ∀ (s : Shared) (H : Hp) (A : Addr) (cl : List (Str × Addr)) (fp : List Addr), PTs (X.blk s H scope (compEnvC scope cl A X.env) fp) ifs (canT C W0 wt))
    (he : ∀ (s : Shared) (H : Hp) (A : Addr) (cl : List (Str × Addr)) (fp : List Addr), DE (X.blk s H scope (compEnvC scope cl A X.env) fp) C W0 elt we) (hs : ∀ x, foldedSetIterable iter X.env x = pure x := by intro _; rfl) :
    DE X C W (.ListComp elt [⟨tg, iter, ifs, 0⟩] scope pos) (wLcM tf ws wt we (own.map (·.2))) :=
  (pe_lc hc hN hi ok hg ht he hs).imp fun σ H Q h => lc_main og (fun acc μ R => R (D.mt (List.length μ)) (μ ++ [Cell.lst acc])) (fun r hp r' m hb w => fin_m r hp r' m hb w) h
def wYes : DT := fun _ μ R _ => R true μ
theorem dts_nil : PTs X [] (canT C W wYes) := ⟨fun pins s σ H Q I ⟨α, Γ, μ, R, Z, r, w, k, _⟩ => pts_nil.run pins s σ H Q I (k true α μ H w r Mv.refl)⟩
theorem dts_one {c : Expr} (h : DTs X C W c wt) : PTs X [c] (canT C W wt) := pts_one h
theorem own_name {j : Nat} : OwnG C (gName j) (fun d Γ => some (Γ.set j (some d))) [j] := ⟨fun α σ H Γ μ d v Q Γ' r i e k => by
  cases e
  refine k _ (r.setv i) ?_
  show List.set (List.set (List.set σ j none) j (some v)) j none = List.set σ j none
  rw [List.set_set, List.set_set]⟩
/-- y = [..], a statement of its own -/
theorem ds_lc {st : Stmt} {i : Nat} (h : PS X st (tAsg (tLc (canI C W ws) g (canT C W0 wt) (canE C W0 we) vs) (gName i))) (og : OwnG C g tf vs) : DSt X C W st (wAsg i (wLc tf ws wt we vs)) :=
  ds_asg (PS.imp h fun En σ H h => lc_main og (fun acc μ R => R (.lst acc) μ) (fun r hp r' m hb w => fin_l r hp r' m hb w) h)
theorem ds_lcM {st : Stmt} {i : Nat} (h : PS X st (tAsg (tLc (canI C W ws) g (canT C W0 wt) (canE C W0 we) vs) (gName i))) (og : OwnG C g tf vs) : DSt X C W st (wAsg i (wLcM tf ws wt we vs)) :=
  ds_asg (PS.imp h fun En σ H h => lc_main og (fun acc μ R => R (D.mt (List.length μ)) (μ ++ [Cell.lst acc])) (fun r hp r' m hb w => fin_m r hp r' m hb w) h)
end
end TC

set_option Elab.async false
set_option linter.all false
set_option maxRecDepth 100000
set_option maxHeartbeats 2000000
namespace TC
open PySem PySem.Spec PyProof.Rows L2
section
variable {X : Cx} {C : Cfg} {W : WX} {a b e : Expr} {wa wb we : DX} {pos : Pos}
def isNon (d : D) : Bool := match d with
  | .non => true
  | _ => false
def wIsN (neg : Bool) (wa : DX) : DX := fun Γ μ R Z => wa Γ μ (fun d μ1 => R (.bl (if neg then !isNon d else isNon d)) μ1) Z
theorem isNon_of {K : PySem.W.Frag} {S : Sts} {α : List Addr} {G : Hp} {x : D} {v : V} (h : Is K S α G x v) : decide (v = V.non) = isNon x := by
  cases h <;> rfl
theorem de_isN {k : Nat} {p : Pos} (ha : DE X C W a wa) : DE X C W (.Compare a [.Is] [.Constant .none k p] pos) (wIsN false wa) := (pe_cmp (pc_isN ha) rfl).imp fun σ H Q ⟨α, Γ, μ, R, Z, r, w, k, z⟩ =>
  ⟨α, Γ, μ, _, Z, r, w, fun d v α1 μ1 H1 w1 r1 m1 i1 => k _ _ _ _ _ w1 r1 m1 (by
    have e := isNon_of i1
    rw [e]
    exact .bl _), z⟩
theorem de_notN {k : Nat} {p : Pos} (ha : DE X C W a wa) : DE X C W (.Compare a [.IsNot] [.Constant .none k p] pos) (wIsN true wa) := (pe_cmp (pc_notN ha) rfl).imp fun σ H Q ⟨α, Γ, μ, R, Z, r, w, k, z⟩ =>
  ⟨α, Γ, μ, _, Z, r, w, fun d v α1 μ1 H1 w1 r1 m1 i1 => k _ _ _ _ _ w1 r1 m1 (by
    have e := isNon_of i1
    rw [e]
    exact .bl _), z⟩
/-- xs or y, xs a list or tuple at rest -/
def wOrL (wa wb : DX) : DX := fun Γ μ R Z => wa Γ μ (fun d μ1 => match d with
  | .lst ds => if ds.isEmpty = true then wb Γ μ1 R Z else R (.lst ds) μ1
  | .tup ds => if ds.isEmpty = true then wb Γ μ1 R Z else R (.tup ds) μ1
  | _ => False) Z
theorem iss_empty {K : PySem.W.Frag} {S : Sts} {α : List Addr} {G : Hp} {ds : List D} {vs : List V} (h : Iss K S α G ds vs) : vs.isEmpty = ds.isEmpty := by
  cases h <;> rfl
theorem de_orL {rest : List Expr} (hK : X.K = C.K) (ha : DE X C W a wa) (hb : DE X C W (.BoolOp .Or (b :: rest) pos) wb) : DE X C W (.BoolOp .Or (a :: b :: rest) pos) (wOrL wa wb) := (pe_orT ha hb).imp fun σ H Q ⟨α, Γ, μ, R, Z, r, w, k, z⟩ =>
  ⟨α, Γ, μ, _, Z, r, w, fun d v α1 μ1 H1 w1 r1 m1 i1 => by
    rw [hK]
    have two : ∀ {ds : List D} {d : D} {p : Addr} (c : Bool), (TruV C.K (.ref p) H1 (!ds.isEmpty)) → Is C.K C.S α1 (gk C α1 μ1 H1) d (.ref p) → (if ds.isEmpty = true then wb Γ μ1 R Z else R d μ1) →
        ∃ k, TruV C.K (.ref p) H1 k ∧ if k = true then Q (.ref p) H1 else canE C W wb σ H1 Q := fun {ds d p} c ht id w => by
      refine ⟨_, ht, ?_⟩
      cases he : ds.isEmpty with
      | true =>
        rw [he, if_pos rfl] at w
        exact ⟨α1, Γ, μ1, R, Z, r1, w, fun d v α2 μ2 H2 w2 r2 m2 i2 => k d v α2 μ2 H2 w2 r2 (m1.trans m2) i2, z.mv m1⟩
      | false =>
        rw [he, if_neg Bool.false_ne_true] at w
        exact k _ _ _ _ _ w r1 m1 id
    cases i1 with
    | lst h q => exact two true (.inl ⟨_, SqL.of (gk_ex _ _ h), by rw [iss_empty q]⟩) (.lst h q) w1
    | tup h q => exact two true (.inr (.inl ⟨_, gk_ex.t h.sq, by rw [iss_empty q]⟩)) (.tup h q) w1
    | _ => exact w1.elim, z⟩
end
def dCountL : D → List D → Mem → RD → Prop := fun x ds μ R => isLst x μ = true ∧ dCount x ds μ R
def dAllL : List D → Mem → RD → Prop := fun ds μ R => dAll ds μ R ∧ ∀ ys, ds ≠ [.tup ys]
/-! comparisons as tests -/
section
variable {X : Cx} {C : Cfg} {W : WX} {a b e : Expr} {wa wb we : DX} {pos : Pos}
theorem dt_cmp {op : CmpOp} {r : R2} {f : D → D → Mem → RD → Prop} (ho : OpR X (compareOp op) r) (sn : SndOp C r f) (ha : DE X C W a wa) (hb : DE X C W b wb) (hm : behindInMarks op b = false) : DTs X C W (.Compare a [op] [b] pos) (wTest (wBin f wa wb)) :=
  PT.imp (pt_cmpR ho ha hb hm) fun σ H Q ⟨α, Γ, μ, R, Z, r, w, k, z⟩ => by
    refine two (W := W) sn ⟨α, Γ, μ, _, Z, r, w, fun d v α1 μ1 H1 w1 r1 m1 i1 => ?_, z⟩
    cases d <;> first | exact w1.elim | skip
    cases i1
    exact ⟨_, rfl, k _ _ _ _ w1 r1 m1⟩
theorem dt_eq (hK : X.K = C.K) (hu : X.A.units + 64 < cLine) (ha : DE X C W a wa) (hb : DE X C W b wb) : DTs X C W (.Compare a [.Eq] [b] pos) (wTest (wBin dEq wa wb)) :=
  dt_cmp (by have h := op_eqD (X := X) hu; rw [hK] at h; exact h) sn_eq ha hb (nomark _)
theorem dt_ne (hK : X.K = C.K) (hu : X.A.units + 64 < cLine) (ha : DE X C W a wa) (hb : DE X C W b wb) : DTs X C W (.Compare a [.NotEq] [b] pos) (wTest (wBin dNe wa wb)) :=
  dt_cmp (by have h := op_neD (X := X) hu; rw [hK] at h; exact h) sn_ne ha hb (nomark _)
theorem dt_in (hK : X.K = C.K) (ha : DE X C W a wa) (hb : DE X C W b wb) (hm : behindInMarks .In b = false) : DTs X C W (.Compare a [.In] [b] pos) (wTest (wBin (dIn false) wa wb)) :=
  dt_cmp (by have h := op_in_seq (X := X); rw [hK] at h; exact h) sn_in ha hb hm
theorem dt_notin (hK : X.K = C.K) (ha : DE X C W a wa) (hb : DE X C W b wb) (hm : behindInMarks .NotIn b = false) : DTs X C W (.Compare a [.NotIn] [b] pos) (wTest (wBin (dIn true) wa wb)) :=
  dt_cmp (by have h := op_notIn_seq (X := X); rw [hK] at h; exact h) sn_in ha hb hm
theorem dt_lt (ha : DE X C W a wa) (hb : DE X C W b wb) : DTs X C W (.Compare a [.Lt] [b] pos) (wTest (wBin dLt wa wb)) := dt_cmp (opr_I0 op_lt) (sn_I fun _ _ _ _ => .bl _) ha hb (nomark _)
theorem dt_le (ha : DE X C W a wa) (hb : DE X C W b wb) : DTs X C W (.Compare a [.LtE] [b] pos) (wTest (wBin dLe wa wb)) := dt_cmp (opr_I0 op_le) (sn_I fun _ _ _ _ => .bl _) ha hb (nomark _)
theorem dt_gt (ha : DE X C W a wa) (hb : DE X C W b wb) : DTs X C W (.Compare a [.Gt] [b] pos) (wTest (wBin dGt wa wb)) := dt_cmp (opr_I0 op_gt) (sn_I fun _ _ _ _ => .bl _) ha hb (nomark _)
theorem dt_ge (ha : DE X C W a wa) (hb : DE X C W b wb) : DTs X C W (.Compare a [.GtE] [b] pos) (wTest (wBin dGe wa wb)) := dt_cmp (opr_I0 op_ge) (sn_I fun _ _ _ _ => .bl _) ha hb (nomark _)
theorem dt_isN {k : Nat} {p : Pos} (ha : DE X C W a wa) : DTs X C W (.Compare a [.Is] [.Constant .none k p] pos) (wTest (wIsN false wa)) := PT.imp (pt_cmpR op_isN ha pe_non (nomark _)) fun σ H Q ⟨α, Γ, μ, R, Z, r, w, k, z⟩ =>
  ⟨α, Γ, μ, _, Z, r, w, fun d v α1 μ1 H1 w1 r1 m1 i1 => ⟨rfl, _, rfl, by
    have e := isNon_of i1
    rw [e]
    exact k _ _ _ _ w1 r1 m1⟩, z⟩
theorem dt_notN {k : Nat} {p : Pos} (ha : DE X C W a wa) : DTs X C W (.Compare a [.IsNot] [.Constant .none k p] pos) (wTest (wIsN true wa)) := PT.imp (pt_cmpR op_notN ha pe_non (nomark _)) fun σ H Q ⟨α, Γ, μ, R, Z, r, w, k, z⟩ =>
  ⟨α, Γ, μ, _, Z, r, w, fun d v α1 μ1 H1 w1 r1 m1 i1 => ⟨rfl, _, rfl, by
    have e := isNon_of i1
    rw [e]
    exact k _ _ _ _ w1 r1 m1⟩, z⟩
end
/-- a name's target -/
abbrev tfN (j : Nat) : D → Gam → Option Gam := fun d Γ => some (Γ.set j (some d))
/-! {} that nobody fills -/
section
variable {X : Cx} {C : Cfg} {W : WX} {pos : Pos}
def wDict0 : DX := fun _ μ R _ => R (.dk [] []) μ
theorem de_dict0 : DE X C W (.Dict [] [] pos) wDict0 := (pe_dnewK).imp fun σ H Q ⟨α, Γ, μ, R, Z, r, w, k, z⟩ => by
  intro p hp
  exact k _ _ _ _ _ w (r.ext (ex_new hp)) (Mv.ext (ex_new hp)) (.dk (xs := []) (r.laid _ hp) rfl .nil)
end
end TC

set_option Elab.async false
set_option linter.all false
set_option maxRecDepth 100000
set_option maxHeartbeats 2000000
namespace TC
open PySem PySem.Spec PyProof.Rows L2
def rRepF (K : PySem.W.Frag) : R2 := fun x y H Q => ∃ l k xs, x = .ref l ∧ y = .int k ∧ SqT K H l xs ∧ xs ≠ [] ∧ 2 ≤ k ∧ k ≤ 1000 ∧ xs.length ≤ 1000 ∧ NewT (List.replicate k.toNat xs).flatten H Q
section
variable {X : Cx}
theorem op_repF : OpR X (binaryOp .Mult) (rRepF X.K) := by
  intro pins s σ H x y v u Q I rx ry h
  obtain ⟨l, k, xs, rfl, rfl, hT, hne, h1, h2, hz, q⟩ := h
  cases rx
  obtain ⟨t, rfl⟩ := ry
  obtain ⟨its, r, ⟨⟨cls, dd, dat, sl⟩, ho, hc, n, hd⟩, hs⟩ := I.tuple hT
  simp only at hc hd
  subst hc hd
  have hle : its.length = xs.length := r.length.symm
  have hn : its ≠ [] := fun e => hne (by
    rw [e] at hle
    exact List.eq_nil_of_length_eq_zero hle.symm)
  have hi : its.toArray.isEmpty = false := by
    cases its with
    | nil => exact absurd rfl hn
    | cons a b => rfl
  have hsz0 : its.toArray.size = xs.length := by rw [List.size_toArray, hle]
  have hm : ((its.toArray.size : Nat) : Int) * k ≤ 1000000 := by
    rw [hsz0]
    have a1 : ((xs.length : Nat) : Int) * k ≤ 1000 * k := Int.mul_le_mul_of_nonneg_right (by omega) (by omega)
    omega
  have flen0 : k.toNat * xs.length ≤ 1000 * 1000 := Nat.mul_le_mul (by omega) hz
  have flen : (List.replicate k.toNat its).flatten.length ≤ sizeLine := by
    rw [PyProof.Rows.lm_len_rep_flat, hle, sizeLine_eq]
    omega
  have c0 : (decide (k < -(2 ^ 63)) || decide (k ≥ 2 ^ 63)) = false := by
    rw [decide_eq_false (by omega), decide_eq_false (by omega)] <;> rfl
  have c1 : (its.toArray.isEmpty || k == 1) = false := by
    rw [hi, Bool.false_or]
    exact beq_eq_false_iff_ne.mpr (by omega)
  have c2 : (decide (k ≤ 0) || its.toArray.isEmpty) = false := by
    rw [hi, Bool.or_false]
    exact decide_eq_false (by omega)
  have c4 : Builtin.Tuple.tupleTooMany (((its.toArray.size : Nat) : Int) * k) = false := by
    unfold Builtin.Tuple.tupleTooMany
    rw [sizeLine_eq]
    exact decide_eq_false (by omega)
  refine wpAny_binaryOp_repeat_ref (T := "tuple") (U := "int") (by decide) ⟨_, ho, rfl⟩ (fun s' => typeIs_int s' k t) noFill_tuple_mul F.fills_int_mul F.slot_int_rmul repeat_tuple F.slot_int_index.lookup
    (call_meets F.slot_int_rmul (typeIs_int s k t) F.entry_int_rmul (F.args_int_rmul_2 _ _) (int_rmul_tuple k t l its.toArray n dd sl)
      ⟨ho, rfl, ⟨_, ho, rfl⟩, call_meets F.slot_tuple_mul ⟨_, ho, rfl⟩ F.entry_tuple_mul (F.args_tuple_mul_2 _ _) (tuple_mulW l its.toArray n dd sl k t c0 c1 c2 (by omega) c4 (by rw [size_rep, List.size_toArray]; exact flen)) ⟨ho, ?_⟩⟩)
  rw [size_rep]
  exact newT_ok I (r.rep k.toNat) (by rw [PyProof.Rows.lm_len_rep_flat, sizeLine_eq]; omega) q
end
section
variable {X : Cx} {C : Cfg} {W : WX} {a b : Expr} {wa wb : DX} {pos : Pos}
/-- * of numbers; of a tuple, a list, and a number -/
def dMul : D → D → Mem → RD → Prop := fun x y μ R => match x, y with
  | .int i, .int j => ((-(2 ^ 64) < i ∧ i < 2 ^ 64) ∨ (-(2 ^ 64) < j ∧ j < 2 ^ 64)) ∧ R (.int (i * j)) μ
  | .tup ds, .int k => (ds ≠ [] ∧ 2 ≤ k ∧ k ≤ 1000 ∧ ds.length ≤ 1000) ∧ R (.tup (List.replicate k.toNat ds).flatten) μ
  | .lst ds, .int k => (0 ≤ k ∧ k ≤ 1000 ∧ ds.length ≤ 1000) ∧ R (.lst (List.replicate k.toNat ds).flatten) μ
  | _, _ => False
theorem Iss.rep {K : PySem.W.Frag} {S : Sts} {α : List Addr} {G : Hp} {ds : List D} {xs : List V} (h : Iss K S α G ds xs) : ∀ n : Nat, Iss K S α G (List.replicate n ds).flatten (List.replicate n xs).flatten
  | 0 => .nil
  | n + 1 => by
    rw [List.replicate_succ, List.replicate_succ, List.flatten_cons, List.flatten_cons]
    exact h.append (Iss.rep h n)
theorem sn_mul : SndOp C (fun x y H Q => rI (fun i j => (-(2 ^ 64) < i ∧ i < 2 ^ 64) ∨ (-(2 ^ 64) < j ∧ j < 2 ^ 64)) (fun i j => .int (i * j)) x y H Q ∨ rRepF C.K x y H Q ∨ rRep x y H Q) dMul := by
  intro x y v u α σ H Γ μ R Q r ix iy w k
  unfold dMul at w
  split at w
  · cases ix
    cases iy
    exact .inl ⟨_, _, rfl, rfl, w.1, k _ _ _ _ _ w.2 r Mv.refl (.int _)⟩
  · cases iy
    cases ix with
    | tup h q =>
      obtain ⟨⟨h1, h2, h3, h4⟩, w⟩ := w
      have hl := q.length
      refine .inr (.inl ⟨_, _, _, rfl, rfl, gk_ex.t h.sq, fun e => h1 ?_, h2, h3, by omega, fun p ob hp ho => ?_⟩)
      · subst e
        exact List.eq_nil_of_length_eq_zero hl
      · obtain ⟨r2, m2, i2⟩ := r.tup hp ho (Iss.rep q _)
        exact k _ _ _ _ _ w r2 m2 i2
  · cases iy
    cases ix with
    | lst h q =>
      obtain ⟨⟨h1, h2, h4⟩, w⟩ := w
      have hl := q.length
      rename_i kk _ _
      refine .inr (.inr ⟨_, _, _, rfl, rfl, gk_ex _ _ h, by omega, by omega, ?_, fun p hp => ?_⟩)
      · rw [sizeLine_eq, ← hl]
        have : ∀ n : Nat, n ≤ 1000 → ∀ m : Nat, m ≤ 1000 → m * n ≤ 16777216 := fun n hn m hm => Nat.le_trans (Nat.mul_le_mul hm hn) (by decide)
        exact this _ (by omega) _ h4
      · obtain ⟨r2, m2, i2⟩ := r.lst hp (Iss.rep q _)
        exact k _ _ _ _ _ w r2 m2 i2
  · exact w.elim
theorem de_mul (hK : X.K = C.K) (ha : DE X C W a wa) (hb : DE X C W b wb) : DE X C W (.BinOp a .Mult b pos) (wBin dMul wa wb) :=
  de_op (opr_or op_mul (opr_or (by have h := op_repF (X := X); rw [hK] at h; exact h) op_rep)) sn_mul ha hb
end
end TC

set_option Elab.async false
set_option linter.all false
set_option maxRecDepth 100000
set_option maxHeartbeats 2000000
/-! x += e; x[i] = e; a list of a thing many times, that will change; powers. -/
namespace TC
open PySem PySem.Spec PyProof.Rows L2
section
variable {X : Cx} {C : Cfg} {W : WX} {a b e o ie : Expr} {st : Stmt} {wa wb we wo wi : DX} {pos : Pos}
def wAug (j : Nat) (f : D → D → Mem → RD → Prop) (we : DX) : DS := fun Γ μ P => match Γ[j]? with
  | some (some x) => we Γ μ (fun y μ1 => f x y μ1 fun d μ2 => P.nx (Γ.set j (some d)) μ2) P.rz
  | _ => False
theorem ds_aug {j : Nat} {f : D → D → Mem → RD → Prop} {ti : R2} (sn : SndOp C ti f) (h : PS X st (tAug j (canE C W we) ti)) : DSt X C W st (wAug j f we) := h.imp fun D σ H ⟨α, Γ, μ, P, r, w, n, t, b, c, z⟩ => by
  unfold wAug at w
  split at w
  · rename_i x hx
    obtain ⟨v, h1, h2⟩ := r.env j x hx
    refine ⟨v, h1, α, Γ, μ, _, _, r, w, fun y u α1 μ1 H1 w1 r1 m1 i1 => ?_, z⟩
    refine sn x y v u α1 σ H1 Γ μ1 _ _ r1 (m1.is h2) i1 w1 fun d v' α2 μ2 H2 w2 r2 m2 i2 => ?_
    exact n α2 _ μ2 _ H2 w2 (r2.setv i2) (m1.trans m2)
  · exact w.elim
def iAdd := fI (fun i j => .int (i + j)) fT
def iSub := fI (fun i j => .int (i - j)) fT
theorem ip_of {op : Operator} {r : R2} (h : OpR X (inplaceOp op) r) : PIp X op r := fun pins s σ H x y v u Q I rx ry q => h pins s σ H x y v u Q I rx ry q
theorem ip_addI : PIp X .Add (rI (fun _ _ => True) fun i j => .int (i + j)) := ip_of (opr_I0 iop_add)
theorem ip_subI : PIp X .Sub (rI (fun _ _ => True) fun i j => .int (i - j)) := ip_of (opr_I0 iop_sub)
theorem sn_iadd : SndOp C (rI (fun _ _ => True) fun i j => .int (i + j)) iAdd := sn_I fun _ _ _ _ => .int _
theorem sn_isub : SndOp C (rI (fun _ _ => True) fun i j => .int (i - j)) iSub := sn_I fun _ _ _ _ => .int _
/-- x[i] = e, x a list that changes -/
def wSetL (wo wi we : DX) : DS := fun Γ μ P => we Γ μ (fun d μ1 => wo Γ μ1 (fun o μ2 => wi Γ μ2 (fun i μ3 => match o, i with
  | .mt k, .int i => match μ3[k]? with
    | some (.lst xs) => ∃ j, ixN xs.length i = some j ∧ P.nx Γ (μ3.set k (.lst (xs.set j d)))
    | _ => False
  | _, _ => False) P.rz) P.rz) P.rz
theorem Iss.setD {K : PySem.W.Frag} {S : Sts} {α : List Addr} {G : Hp} {d : D} {v : V} (h : Is K S α G d v) : ∀ {ds : List D} {xs : List V} (j : Nat), Iss K S α G ds xs → Iss K S α G (ds.set j d) (xs.set j v)
  | _, _, _, .nil => .nil
  | _, _, 0, .cons _ r => .cons h r
  | _, _, j + 1, .cons p r => .cons p (Iss.setD h j r)
theorem ds_setL (h : PS X st (tAsg (canE C W we) (gSub (canE C W wo) (canE C W wi) rSetL))) : DSt X C W st (wSetL wo wi we) := h.imp fun D σ H ⟨α, Γ, μ, P, r, w, n, t, b, c, z⟩ => by
  refine ⟨α, Γ, μ, _, _, r, w, fun d v α1 μ1 H1 w1 r1 m1 i1 => ?_, z⟩
  refine ⟨α1, Γ, μ1, _, _, r1, w1, fun o u α2 μ2 H2 w2 r2 m2 i2 => ?_, z.mv m1⟩
  refine ⟨α2, Γ, μ2, _, _, r2, w2, fun i y α3 μ3 H3 w3 r3 m3 i3 => ?_, z.mv (m1.trans m2)⟩
  have io := m3.is i2
  have id := (m2.trans m3).is i1
  split at w3
  · rename_i kk ii
    cases i3
    cases io with
    | mt hk =>
      split at w3
      · rename_i xs hq
        obtain ⟨jj, hj, w3⟩ := w3
        obtain ⟨zs, h1, h2⟩ := r3.cells _ _ _ hk hq
        obtain ⟨r4, m4⟩ := r3.write (o := .lst (zs.set jj v)) (c := .lst (xs.set jj d)) hk (by rw [hq]; exact fun q => nomatch q) ⟨_, upd_same, Iss.setD id jj h2⟩ (fun q => nomatch q)
        exact ⟨_, zs, _, jj, rfl, rfl, h1, by rw [← h2.length]; exact hj, n _ _ _ _ _ w3 r4 (m1.trans (m2.trans (m3.trans m4)))⟩
      · exact w3.elim
  · exact w3.elim
/-- [x] * n, a list that will change -/
def dMulM : D → D → Mem → RD → Prop := fun x y μ R => match x, y with
  | .lst ds, .int k => (0 ≤ k ∧ k ≤ 1000 ∧ ds.length ≤ 1000) ∧ R (.mt μ.length) (μ ++ [.lst (List.replicate k.toNat ds).flatten])
  | _, _ => False
theorem sn_mulM : SndOp C rRep dMulM := by
  intro x y v u α σ H Γ μ R Q r ix iy w k
  unfold dMulM at w
  split at w
  · cases iy
    cases ix with
    | lst h q =>
      obtain ⟨⟨h1, h2, h4⟩, w⟩ := w
      have hl := q.length
      refine ⟨_, _, _, rfl, rfl, gk_ex _ _ h, by omega, by omega, ?_, fun p hp => ?_⟩
      · rw [sizeLine_eq, ← hl]
        have : ∀ n : Nat, n ≤ 1000 → ∀ m : Nat, m ≤ 1000 → m * n ≤ 16777216 := fun n hn m hm => Nat.le_trans (Nat.mul_le_mul hm hn) (by decide)
        exact this _ (by omega) _ h4
      · obtain ⟨r2, m2, i2⟩ := r.mlst hp (Iss.rep q _)
        exact k _ _ _ _ _ w r2 m2 i2
  · exact w.elim
theorem de_mulM (ha : DE X C W a wa) (hb : DE X C W b wb) : DE X C W (.BinOp a .Mult b pos) (wBin dMulM wa wb) := de_op op_rep sn_mulM ha hb
def dPow := fI (fun i j => .int (i ^ j.toNat)) fun i j => 0 ≤ j ∧ j ≤ 1000000 ∧ i.natAbs < 2 ^ 64
theorem de_pow (ha : DE X C W a wa) (hb : DE X C W b wb) : DE X C W (.BinOp a .Pow b pos) (wBin dPow wa wb) := de_op op_pow (sn_I fun _ _ _ _ => .int _) ha hb
end
end TC

set_option Elab.async false
set_option linter.all false
set_option maxRecDepth 100000
set_option maxHeartbeats 2000000
/-! What the defs are to do, at the data level. -/
namespace TC
open PySem PySem.Spec PyProof.Rows L2
structure Adr where
  c_CoatError : Addr
  c_NoSize : Addr
  c_NoTurn : Addr
  c_NoGroup : Addr
def d_SIZES : D := .tup [.int 2, .int 3, .int 4, .int 5]
/-! ### things -/
def isNum (x : D) : Bool := match x with
  | .int _ => true
  | _ => false
/-- a thing that the look at kinds knows -/
def okD (x : D) : Bool := (tyN x).isSome && x.pure
def okT (x : D) : Bool := okD x && match x with
  | .tup ds => ds.all okD && decide (ds.length ≤ 1000)
  | _ => true
def nums : List D → Option (List Int)
  | [] => some []
  | .int i :: ds => (nums ds).map (i :: ·)
  | _ :: _ => none
def tOk (ns : List Int) : Bool := (2 ≤ ns.length && ns.length ≤ 5) && (List.range ns.length).all fun (k : Nat) => ns.contains (k : Int)
def sizeOf (x : D) : Nat := match x with
  | .tup ds => match nums ds with
    | some ns => if tOk ns = true then ns.length else 0
    | none => 0
  | _ => 0
def isSize (x : D) : Bool := match x with
  | .int n => decide (2 ≤ n ∧ n ≤ 5)
  | _ => false
def tI (ns : List Int) : D := .tup (ns.map D.int)
def putL (a b : List Int) : List Int := b.map fun k => a.getD k.toNat 0
def backL (a : List Int) : List Int := (List.range a.length).map fun (k : Nat) => ((a.idxOf (k : Int) : Nat) : Int)
def rgL (n : Nat) : List Int := (List.range n).map fun (k : Nat) => (k : Int)


def sp_is_number (A : Adr) : SpD := fun ds R _ => ∃ x, ds = [x] ∧ okD x = true ∧ R (.bl (isNum x))
def sp_size_of (A : Adr) : SpD := fun ds R _ => ∃ x, ds = [x] ∧ okT x = true ∧ R (.int (sizeOf x : Nat))
def sp_need_size (A : Adr) : SpD := fun ds R Z => ∃ x, ds = [x] ∧ okT x = true ∧ (isSize x = true → R .non) ∧ (isSize x = false → Z A.c_NoSize)
def sp_need_turn (A : Adr) : SpD := fun ds R Z => ∃ x, ds = [x] ∧ okT x = true ∧ (sizeOf x ≠ 0 → R (.int (sizeOf x : Nat))) ∧ (sizeOf x = 0 → Z A.c_NoTurn)
def sp_put (A : Adr) : SpD := fun ds R _ => ∃ a b : List Int, ds = [tI a, tI b] ∧ (∀ k ∈ b, 0 ≤ k ∧ k < a.length) ∧ b.length ≤ 1000 ∧ R (tI (putL a b))
def sp_back (A : Adr) : SpD := fun ds R _ => ∃ a : List Int, ds = [tI a] ∧ (∀ k : Nat, k < a.length → (k : Int) ∈ a) ∧ a.length ≤ 1000 ∧ R (tI (backL a))
def sp_is_turn (A : Adr) : SpD := fun ds R Z => ∃ x y, ds = [x, y] ∧ okT x = true ∧ okT y = true ∧ (∀ n : Int, y = .int n → 2 ≤ n → n ≤ 5 → R (.bl (decide ((sizeOf x : Int) = n)))) ∧ (isSize y = false → Z A.c_NoSize)
def sp_plain (A : Adr) : SpD := fun ds R Z => ∃ x, ds = [x] ∧ okT x = true ∧ (∀ n : Nat, x = .int n → 2 ≤ n → n ≤ 5 → R (tI (rgL n))) ∧ (isSize x = false → Z A.c_NoSize)
def sp_into (A : Adr) : SpD := fun ds R Z => ∃ x y, ds = [x, y] ∧ okT x = true ∧ okT y = true ∧ (∀ a b : List Int, x = tI a → y = tI b → tOk a = true → tOk b = true → a.length = b.length → R (tI (putL a b))) ∧
  (¬ (sizeOf x ≠ 0 ∧ sizeOf x = sizeOf y) → Z A.c_NoTurn)
def sp_undone (A : Adr) : SpD := fun ds R Z => ∃ x, ds = [x] ∧ okT x = true ∧ (∀ a : List Int, x = tI a → tOk a = true → R (tI (backL a))) ∧ (sizeOf x = 0 → Z A.c_NoTurn)

end TC

set_option Elab.async false
set_option linter.all false
set_option maxRecDepth 100000
set_option maxHeartbeats 2000000
/-! What the drawing defs are to do. -/
namespace TC
open PySem PySem.Spec PyProof.Rows L2
def sp_law_state (A : Adr) : SpD := fun ds R _ => ∃ ns : List Int, ds = [.scr ns] ∧ ns.length ≤ 63 ∧ ∀ cs : List Int, cs ≠ [] → cs.length ≤ 64 → (∀ c ∈ cs, 0 ≤ c) → R (.lst [.lst (cs.map D.int), .int 0, .int 1])
def sp_law_draw (A : Adr) : SpD := fun ds R _ => ∃ m : Int, ds = [.st, .int m] ∧ 0 < m ∧ m < 1000000000000000000000000000000000000000000 ∧ ∀ r : Int, 0 ≤ r → r < m → R (.int r)
def sp_law_pick (A : Adr) : SpD := fun ds R _ => ∃ xs : List D, ds = [.st, .lst xs] ∧ xs ≠ [] ∧ xs.length ≤ 1000 ∧ pures xs = true ∧ ∀ d ∈ xs, R d
def sp_law_mixed (A : Adr) : SpD := fun ds R _ => ∃ ns : List Int, ds = [.st, .lst (ns.map D.int)] ∧ ns.length ≤ 1000 ∧ ∀ ms : List Int, ms.Perm ns → R (.lst (ms.map D.int))
def sp_law_a_turn (A : Adr) : SpD := fun ds R _ => ∃ n : Int, ds = [.st, .int n] ∧ 2 ≤ n ∧ n ≤ 5 ∧ ∀ a : List Int, tOk a = true → (a.length : Int) = n → R (tI a)
def sp_law_into (A : Adr) : SpD := sp_put A
def sp_law_undone (A : Adr) : SpD := sp_back A
def sp_law_exact (A : Adr) : SpD := fun ds R _ => ∃ a b : List Int, ds = [tI a, tI b] ∧ a.length ≤ 1000 ∧ b.length ≤ 1000 ∧ R (.bl (decide (a = b)))
/-- what is handed on as odd: the kinds known, nothing mutable within -/
def thing (x : D) : Bool := okT x && x.pure
def sp_law_other (A : Adr) : SpD := fun ds R _ => ∃ a : List Int, ds = [.st, tI a] ∧ tOk a = true ∧ ∀ d : D, thing d = true → R d
def sp_law_is_turn (A : Adr) : SpD := fun ds R _ => ∃ (x : D) (n : Nat), ds = [x, .int n] ∧ okT x = true ∧ 2 ≤ n ∧ n ≤ 5 ∧ R (.bl (decide (sizeOf x = n)))
/-- what a way of asking tells -/
def doneOk (way : Str) (x y : D) (R : D → Prop) (ZS ZT : Prop) : Prop :=
  (way = "into" ∧ (∀ a b : List Int, x = tI a → y = tI b → tOk a = true → tOk b = true → a.length = b.length → R (tI (putL a b))) ∧ (¬ (sizeOf x ≠ 0 ∧ sizeOf x = sizeOf y) → ZT)) ∨
  (way = "undone" ∧ (∀ a : List Int, x = tI a → tOk a = true → R (tI (backL a))) ∧ (sizeOf x = 0 → ZT)) ∨
  (way = "plain" ∧ (∀ n : Nat, x = .int n → 2 ≤ n → n ≤ 5 → R (tI (rgL n))) ∧ (isSize x = false → ZS))
def sp_law_done (A : Adr) : SpD := fun ds R Z => ∃ (way : Str) (x y : D), ds = [.str way, x, y] ∧ thing x = true ∧ thing y = true ∧ doneOk way x y R (Z A.c_NoSize) (Z A.c_NoTurn)
def sp_law_tried (A : Adr) : SpD := fun ds R _ => ∃ (way : Str) (x y : D), ds = [.str way, x, y] ∧ thing x = true ∧ thing y = true ∧ doneOk way x y (fun _ => R (.str "told")) (R (.str "size")) (R (.str "turn"))
def sp_law_known (A : Adr) : SpD := fun ds R _ => ∃ (x : D) (b : List Int), ds = [x, tI b] ∧ thing x = true ∧ tOk b = true ∧ R (.bl true)
def sp_law (A : Adr) : SpD := fun ds R _ => R (.bl true)
end TC

set_option Elab.async false
set_option linter.all false
set_option maxRecDepth 100000
set_option maxHeartbeats 2000000
/-! Turns as rows of numbers. -/
namespace TC
open PySem PySem.Spec PyProof.Rows L2
/-! ### == of rows of numbers -/
theorem py_ints : ∀ ns : List Int, pys (ns.map D.int) = ns.map PyData.int
  | [] => rfl
  | n :: ns => by
    show PyData.int n :: pys (ns.map D.int) = _
    rw [py_ints ns]
    rfl
theorem isPy_ints : ∀ ns : List Int, isPys (ns.map D.int) = true
  | [] => rfl
  | n :: ns => isPy_ints ns
theorem canLay_ints : ∀ ns : List Int, PyData.canLayAll0 (ns.map PyData.int) = true
  | [] => rfl
  | _ :: r => by simp [PyData.canLayAll0, PyData.canLay0, canLay_ints r]
theorem depth_ints : ∀ ns : List Int, PyData.depthAll (ns.map PyData.int) = 0
  | [] => rfl
  | _ :: r => by simp [PyData.depthAll, PyData.depth, depth_ints r]
theorem shaped_ints (ns : List Int) : SeqAt.shaped (.list (ns.map PyData.int)) = true := by
  simp [SeqAt.shaped, PyData.canLay0, PyData.depth, canLay_ints, depth_ints]
theorem shaped_intsT (ns : List Int) : SeqAt.shaped (.tuple (ns.map PyData.int)) = true := by
  simp [SeqAt.shaped, PyData.canLay0, PyData.depth, canLay_ints, depth_ints]
theorem eqOk_tI (ns : List Int) : eqOk (tI ns) = true := by
  show (isPys (ns.map D.int) && SeqAt.shaped (.tuple (pys (ns.map D.int)))) = true
  rw [isPy_ints, py_ints]
  exact shaped_intsT ns
theorem eqOk_lI (ns : List Int) : eqOk (.lst (ns.map D.int)) = true := by
  show (isPys (ns.map D.int) && SeqAt.shaped (.list (pys (ns.map D.int)))) = true
  rw [isPy_ints, py_ints]
  exact shaped_ints ns
theorem eqvAll_ints : ∀ ns ms : List Int, PyData.eqvAll (ns.map PyData.int) (ms.map PyData.int) = decide (ns = ms)
  | [], [] => by simp [PyData.eqvAll]
  | [], _ :: _ => by simp [PyData.eqvAll]
  | _ :: _, [] => by simp [PyData.eqvAll]
  | n :: ns, m :: ms => by
    simp only [List.map_cons, PyData.eqvAll, eqvAll_ints ns ms, PyData.eqv]
    by_cases h : n = m <;> by_cases h' : ns = ms <;> simp [h, h']
theorem deq_tI (ns ms : List Int) : deq (tI ns) (tI ms) = decide (ns = ms) := by
  show PyData.eqv (.tuple (pys (ns.map D.int))) (.tuple (pys (ms.map D.int))) = _
  rw [py_ints, py_ints, PyData.eqv, eqvAll_ints]
theorem deq_lI (ns ms : List Int) : deq (.lst (ns.map D.int)) (.lst (ms.map D.int)) = decide (ns = ms) := by
  show PyData.eqv (.list (pys (ns.map D.int))) (.list (pys (ms.map D.int))) = _
  rw [py_ints, py_ints, PyData.eqv, eqvAll_ints]
theorem deq_int (n m : Int) : deq (.int n) (.int m) = decide (n = m) := by
  show PyData.eqv (.int n) (.int m) = _
  rw [PyData.eqv]
  by_cases h : n = m <;> simp [h]
theorem eqOk_int (n : Int) : eqOk (.int n) = true := by
  show (true && SeqAt.shaped (.int n)) = true
  simp [SeqAt.shaped, PyData.canLay0, PyData.depth]
theorem in_sizes (n : Int) : (([.int 2, .int 3, .int 4, .int 5] : List D).any fun z => deq z (.int n)) = decide (2 ≤ n ∧ n ≤ 5) := by
  simp only [List.any_cons, List.any_nil, deq_int, Bool.or_false]
  by_cases h : 2 ≤ n ∧ n ≤ 5
  · rw [decide_eq_true h]
    simp
    omega
  · rw [decide_eq_false h]
    simp
    omega
/-! ### perms -/
theorem perm_of_sub : ∀ {a b : List Int}, a.Nodup → (∀ x ∈ a, x ∈ b) → b.length ≤ a.length → a.Perm b
  | [], b, _, _, h => by
    cases b with
    | nil => exact .nil
    | cons _ _ => simp at h
  | x :: xs, b, hn, hs, h => by
    have hb := hs x (List.mem_cons_self ..)
    have p := List.perm_cons_erase hb
    have hn' := List.nodup_cons.mp hn
    refine .trans (.cons x (perm_of_sub (b := b.erase x) hn'.2 (fun y hy => ?_) ?_)) p.symm
    · exact (List.mem_erase_of_ne (fun e : y = x => hn'.1 (by rw [← e]; exact hy))).mpr (hs y (List.mem_cons_of_mem _ hy))
    · have := p.length_eq
      simp at this h ⊢
      omega
theorem rgL_len (n : Nat) : (rgL n).length = n := by unfold rgL; simp
theorem rgL_mem {n : Nat} {i : Int} : i ∈ rgL n ↔ 0 ≤ i ∧ i < n := by
  unfold rgL
  rw [List.mem_map]
  constructor
  · rintro ⟨k, h, rfl⟩
    have := List.mem_range.mp h
    omega
  · rintro ⟨h1, h2⟩
    exact ⟨i.toNat, List.mem_range.mpr (by omega), by omega⟩
theorem rgL_lt (n : Nat) : (rgL n).Pairwise (· < ·) := by
  unfold rgL
  rw [List.pairwise_map]
  exact List.pairwise_lt_range.imp fun h => by omega
theorem rgL_nodup (n : Nat) : (rgL n).Nodup := (rgL_lt n).imp fun h => by omega
theorem tOk_iff {ns : List Int} : tOk ns = true ↔ (2 ≤ ns.length ∧ ns.length ≤ 5) ∧ ∀ k : Nat, k < ns.length → (k : Int) ∈ ns := by
  unfold tOk
  simp
theorem tOk_perm {ns : List Int} (h : tOk ns = true) : (rgL ns.length).Perm ns := by
  obtain ⟨_, h⟩ := tOk_iff.mp h
  refine perm_of_sub (rgL_nodup _) (fun x hx => ?_) (by rw [rgL_len]; exact Nat.le_refl _)
  obtain ⟨h1, h2⟩ := rgL_mem.mp hx
  have := h x.toNat (by omega)
  rw [Int.toNat_of_nonneg h1] at this
  exact this
theorem tOk_of_perm {ns : List Int} {n : Nat} (h : ns.Perm (rgL n)) (h2 : 2 ≤ n) (h5 : n ≤ 5) : tOk ns = true := by
  have hl := h.length_eq
  rw [rgL_len] at hl
  refine tOk_iff.mpr ⟨by omega, fun k hk => h.mem_iff.mpr (rgL_mem.mpr (by omega))⟩
theorem tOk_mem {ns : List Int} (h : tOk ns = true) {x : Int} (hx : x ∈ ns) : 0 ≤ x ∧ x < ns.length := rgL_mem.mp ((tOk_perm h).mem_iff.mpr hx)
theorem tOk_nodup {ns : List Int} (h : tOk ns = true) : ns.Nodup := (tOk_perm h).nodup_iff.mp (rgL_nodup _)
theorem tOk_rg {n : Nat} (h2 : 2 ≤ n) (h5 : n ≤ 5) : tOk (rgL n) = true := tOk_of_perm (.refl _) h2 h5
theorem sorted_rg {ns' ns : List Int} (p : ns'.Perm ns) (s : ns'.Pairwise (· ≤ ·)) (h2 : 2 ≤ ns.length) (h5 : ns.length ≤ 5) : decide (ns' = rgL ns.length) = tOk ns := by
  cases h : tOk ns with
  | true =>
    refine decide_eq_true (List.Perm.eq_of_pairwise (le := (· ≤ ·)) (fun a b _ _ h1 h2 => by omega) s ((rgL_lt _).imp fun h => by omega) (p.trans (tOk_perm h).symm))
  | false =>
    refine decide_eq_false fun e => ?_
    rw [tOk_of_perm (p.symm.trans (by rw [e])) h2 h5] at h
    cases h
theorem nums_some : ∀ {ds : List D} {ns : List Int}, nums ds = some ns → ds = ns.map D.int
  | [], ns, h => by
    have h : some [] = some ns := h
    cases h
    rfl
  | d :: ds, ns, h => by
    cases d with
    | int i =>
      have h : (nums ds).map (i :: ·) = some ns := h
      cases q : nums ds with
      | none => rw [q] at h; cases h
      | some ms =>
        rw [q] at h
        cases h
        rw [nums_some q]
        rfl
    | _ => cases h
theorem nums_ints : ∀ ns : List Int, nums (ns.map D.int) = some ns
  | [] => rfl
  | n :: ns => by
    show (nums (ns.map D.int)).map (n :: ·) = _
    rw [nums_ints ns]
    rfl
theorem nums_none : ∀ {ds : List D}, nums ds = none → (ds.map isNum).all id = false
  | [], h => by cases h
  | d :: ds, h => by
    cases d with
    | int i =>
      have h : (nums ds).map (i :: ·) = none := h
      cases q : nums ds with
      | none =>
        show (true && (ds.map isNum).all id) = false
        rw [nums_none q]
        rfl
      | some ms => rw [q] at h; cases h
    | _ => rfl
theorem isNum_ints (ns : List Int) : ((ns.map D.int).map isNum).all id = true := by
  rw [List.all_eq_true]
  intro b hb
  obtain ⟨d, hd, rfl⟩ := List.mem_map.mp hb
  obtain ⟨n, _, rfl⟩ := List.mem_map.mp hd
  rfl
theorem rgD_rgL (n : Nat) : rgD 0 n = (rgL n).map D.int := by
  unfold rgD rgL
  rw [List.map_map]
  simp
theorem sizeOf_tI (ns : List Int) : sizeOf (tI ns) = if tOk ns = true then ns.length else 0 := by
  show (match nums (ns.map D.int) with | some ns => if tOk ns = true then ns.length else 0 | none => 0) = _
  rw [nums_ints]
theorem sizeOf_ok {ns : List Int} (h : tOk ns = true) : sizeOf (tI ns) = ns.length := by rw [sizeOf_tI, if_pos h]
theorem sizeOf_turn {x : D} (h : sizeOf x ≠ 0) : ∃ ns, x = tI ns ∧ tOk ns = true ∧ sizeOf x = ns.length := by
  cases x with
  | tup ds =>
    have e : sizeOf (.tup ds) = match nums ds with | some ns => if tOk ns = true then ns.length else 0 | none => 0 := rfl
    rw [e] at h ⊢
    cases q : nums ds with
    | none => rw [q] at h; exact absurd rfl h
    | some ns =>
      rw [q] at h
      by_cases ht : tOk ns = true
      · exact ⟨ns, by rw [nums_some q]; rfl, ht, if_pos ht⟩
      · have h : (if tOk ns = true then ns.length else 0) ≠ 0 := h
        rw [if_neg ht] at h
        exact absurd rfl h
  | _ => exact absurd rfl h
end TC

set_option Elab.async false
set_option linter.all false
set_option maxRecDepth 100000
set_option maxHeartbeats 2000000
/-! The law's own def; the drawing. -/
namespace TC
open PySem PySem.Spec PyProof.Rows L2
def spLaw (K : PySem.W.Frag) : Sp := fun vs H Q _ => ∃ (a : Addr) (ns : List Int), vs = [.ref a] ∧ SqL K H a (ns.map V.int) ∧ ns.length ≤ 63 ∧ ∀ H', Q (.bl true) H'
def gamS (n j : Nat) : Gam := (List.replicate n none).set j (some .st)
section
variable {P : Program} {w : World} {K : PySem.W.Frag} {mg : Str → Option Value} {base : Heap}
open Classical in
theorem law_fn {A : Adr} {x qual : Str} {st s0 : Stmt} {rest : List Stmt} {f : Addr} {fd : FuncData} {N : List Str} {k j : Nat} {wb : DS} (F : Fun K x qual st f fd) (S : FnScope N ["script"] (defScope st)) (hb : defBody st = s0 :: rest) (hN : 1 ≤ N.length ∧ j < N.length)
    (first : ∀ (S : Sts) (N0 : Addr → Bool) (H0 : Hp) (cdv : Value) (A0 : Around) (outer : List Env) (s : Shared) (H : Hp) (E : XK), Room k (A0.deeper (envOfC qual (defScope st) s.heap.objs.size f cdv)) →
      DSt (cxOf (L2.CX P w) P w K mg base N qual (defScope st) f cdv A0 outer s H E) ⟨K, S, N0, H0⟩ (fun cls d _ H => E cls d H) s0 (wAsg j (wCall 1 (sp_law_state A) (wCons (wVar 0) wNil))))
    (body : ∀ (S : Sts) (N0 : Addr → Bool) (H0 : Hp) (cdv : Value) (A0 : Around) (outer : List Env) (s : Shared) (H : Hp) (E : XK), Room k (A0.deeper (envOfC qual (defScope st) s.heap.objs.size f cdv)) →
      DSs (cxOf (L2.CX P w) P w K mg base N qual (defScope st) f cdv A0 outer s H E) ⟨K, S, N0, H0⟩ (fun cls d _ H => E cls d H) rest wb)
    (sound : wb (gamS N.length j) [] ⟨fun _ _ => False, fun d _ => d = .bl true, fun _ _ => False, fun _ _ => False, fun _ _ _ => False⟩) :
    FnOk P w K mg base (L2.CX P w) (k + 1) f fd ["script"] (spLaw K) := by
  refine F.okX S (fun vs H Q E h => by obtain ⟨a, ns, rfl, _⟩ := h; rfl) fun cdv A0 outer s H vs Q E hr h => ?_
  obtain ⟨a, ns, rfl, hS, hlen, q⟩ := h
  have h1 := first none (fun _ => false) H cdv A0 outer s H E hr
  have h2 : PSs (cxOf (L2.CX P w) P w K mg base N qual (defScope st) f cdv A0 outer s H E) rest (fun D σ H' => ∃ S N0 H0, canS ⟨K, S, N0, H0⟩ (fun cls d _ H => E cls d H) wb D σ H') :=
    ⟨fun pins s1 σ H' D I ⟨S, N0, H0, h⟩ => PSs.run (body S N0 H0 cdv A0 outer s H E hr) pins s1 σ H' D I h⟩
  refine ⟨_, by rw [hb]; exact pss_cons h1 h2, ?_⟩
  have ok : CfgOk ⟨K, none, fun _ => false, H⟩ := ⟨fun a h => (by cases h), fun a ⟨s, c, e, _⟩ => (by cases e), fun s c e => (by cases e)⟩
  have ng : ∀ (H1 : Hp) (a : Addr) (o : HO), H1 a = some o → gk ⟨K, none, fun _ => false, H⟩ [] [] H1 a = some o := fun H1 a o h => gk_of h fun z => by
    have z := hid0.mp z
    cases z
  have r := start_rl (C := ⟨K, none, fun _ => false, H⟩) (N := N) (ds := [.scr ns]) (vs := [.ref a]) ok (.cons (.scr (by
    rcases hS with (h | ⟨o, h⟩) | h
    · exact .inl (.inl (ng _ _ _ h))
    · exact .inl (.inr ⟨o, ng _ _ _ h⟩)
    · exact .inr h)) .nil)
  refine ⟨[], _, [], ⟨fun Γ' μ' => ∃ cs : List Int, (cs ≠ [] ∧ cs.length ≤ 64 ∧ ∀ c ∈ cs, 0 ≤ c) ∧ Γ' = (gam0 N.length [.scr ns]).set j (some (.lst [.lst (cs.map D.int), .int 0, .int 1])), fun _ _ => False, fun _ _ => False, fun _ _ => False, fun _ _ _ => False⟩, r, ?_, ?_, ?_, ?_, ?_, ?_⟩
  · have e0 : (gam0 N.length [.scr ns])[0]? = some (some (.scr ns)) := rfl
    show wAsg j (wCall 1 (sp_law_state A) (wCons (wVar 0) wNil)) _ _ _
    unfold wAsg wCall wCons wVar
    rw [e0]
    refine ⟨⟨rfl, rfl⟩, ns, rfl, hlen, fun cs h1 h2 h3 => ⟨cs, ⟨h1, h2, h3⟩, rfl⟩⟩
  · rintro α' Γ' μ' σ' H' ⟨cs, ⟨c1, c2, c3⟩, rfl⟩ r' m'
    have hj : j < (gam0 N.length [.scr ns]).length := by
      have := r.slen
      unfold gam0
      simp
      omega
    obtain ⟨v, hv, iv⟩ := r'.env j _ (List.getElem?_set_self hj)
    cases iv with
    | lst hs iss =>
      cases iss with
      | cons i1 t1 =>
        cases t1 with
        | cons i2 t2 =>
          cases t2 with
          | cons i3 t3 =>
            cases t3
            cases i2
            cases i3
            cases i1 with
            | lst hc ics =>
              have ec := ics.ints
              subst ec
              rename_i sA cA
              have hs' := gk_ex _ _ hs
              have hc' := gk_ex _ _ hc
              have ne : sA ≠ cA := fun e => by
                rw [e, hc'] at hs'
                cases cs with
                | nil => exact c1 rfl
                | cons n ns => simp at hs'
              refine ⟨some (sA, cA), fun a => decide (a = sA ∨ a = cA), H', [], gamS N.length j, [], ⟨fun _ _ => False, fun d _ => d = .bl true, fun _ _ => False, fun _ _ => False, fun _ _ _ => False⟩, ?_, sound, ?_, ?_, ?_, ?_, ?_⟩
              · refine ⟨fun a o h _ => h, fun a h => ?_, fun a ⟨s, c, e, z⟩ => ?_, fun a h => (by cases h), .nil, fun a h => (by cases h), rfl, fun k a c h _ => (by simp at h), fun s c e => ?_, ?_, fun i d q => ?_⟩
                · have h := of_decide_eq_true h
                  show H' a ≠ none
                  rcases h with h | h
                  · rw [h, hs']; exact fun q => nomatch q
                  · rw [h, hc']; exact fun q => nomatch q
                · cases e
                  exact decide_eq_true z
                · cases e
                  exact ⟨ne, 0, 1, cs, hs', hc', c1, c2, c3, by decide, by decide, by decide⟩
                · rw [← r'.slen]
                  unfold gamS gam0
                  simp
                  omega
                · unfold gamS at q
                  by_cases hi : i = j
                  · subst hi
                    rw [List.getElem?_set_self (by simpa using hN.2)] at q
                    cases q
                    exact ⟨_, hv, .st rfl⟩
                  · rw [List.getElem?_set_ne (Ne.symm hi)] at q
                    have := List.mem_of_getElem? q
                    have := (List.mem_replicate.mp this).2
                    cases this
              · intro _ _ _ _ _ h
                exact h.elim
              · rintro d v _ _ _ _ H2 rfl _ _ i
                cases i
                exact q H2
              · intro _ _ _ _ _ h
                exact h.elim
              · intro _ _ _ _ _ h
                exact h.elim
              · intro _ _ _ _ _ _ h
                exact h.elim
  · intro _ _ _ _ _ _ _ h
    exact h.elim
  · intro _ _ _ _ _ h
    exact h.elim
  · intro _ _ _ _ _ h
    exact h.elim
  · intro _ _ _ _ _ _ h
    exact h.elim
end
/-! ### the drawing -/
def rLenQ (K : PySem.W.Frag) : List V → Hp → VK → Prop := fun xs H Q => ∃ p ys, xs = [.ref p] ∧ (SqL K H p ys ∨ SqT K H p ys) ∧ Q (.int ys.length) H
def rModN : R2 := rI (fun _ j => j ≠ 0) fun i j => .int (i.fmod j)
def rFdivN : R2 := rI CDivW fun i j => .int (i / j)
def rMulI : R2 := rI (fun i j => (-(2 ^ 64) < i ∧ i < 2 ^ 64) ∨ (-(2 ^ 64) < j ∧ j < 2 ^ 64)) fun i j => .int (i * j)
def rAddI : R2 := rI0 fun i j => .int (i + j)
def rGeI : R2 := rI0 fun i j => .bl (decide (j ≤ i))
def tStI (K : PySem.W.Frag) (i : Int) : TE := tOp (rIxL K) (tVar 0) (tC (.int i))
def t_draw (K : PySem.W.Frag) : TS :=
  tSeq (tAsg (tStI K 0) (gName 2))
  (tSeq (tAsg (tOp rModN (tStI K 1) (tCB (rLenQ K) (tCons (tVar 2) tNil))) (gName 3))
  (tSeq (tAsg (tOp (rIxL K) (tVar 2) (tVar 3)) (gName 4))
  (tSeq (tIfS (tTest (tOp rGeI (tVar 4) (tC (.int 1000000000000000000))))
    (tSeq (tAsg (tOp rFdivN (tVar 4) (tVar 1)) (gSub (tVar 2) (tVar 3) rSetL)) (tSeq (tRet (tOp rModN (tVar 4) (tVar 1))) tNext)) tNext)
  (tSeq (tAsg (tOp rAddI (tStI K 1) (tC (.int 1))) (gSub (tVar 0) (tC (.int 1)) rSetL))
  (tSeq (tAsg (tOp rModN (tOp rAddI (tOp rAddI (tOp rMulI (tStI K 2) (tC (.int 48271))) (tVar 4)) (tC (.int 12345))) (tC (.int 2147483647))) (gSub (tVar 0) (tC (.int 2)) rSetL))
  (tSeq (tRet (tOp rModN (tOp rFdivN (tOp rModN (tOp rMulI (tStI K 2) (tStI K 2)) (tC (.int 2147483629))) (tC (.int 16))) (tVar 1))) tNext))))))
theorem fmod_lt {a b : Int} (h : 0 < b) : 0 ≤ a.fmod b ∧ a.fmod b < b := ⟨Int.fmod_nonneg_of_pos a h, Int.fmod_lt_of_pos a h⟩
theorem draw_read {K : PySem.W.Frag} {A : Adr} {vs : List V} {H : Hp} {Q : VK} {E : XK} (h : toSp K 2 (sp_law_draw A) vs H Q E) : t_draw K { nx := fun _ H' => Q .non H', rt := Q } (L2.start ["state", "many", "cells", "at", "cell"] vs) H := by
  obtain ⟨hl2, ⟨K', S, N0, H0⟩, ds, R, Z, eK, eH, ok, is, ⟨m, rfl, m0, m1, hR⟩, hq, _⟩ := h
  have eK : K' = K := eK
  have eH : H0 = H := eH
  subst eK eH
  obtain ⟨v, u, rfl, i1, i2⟩ := iss2 is
  cases i2
  cases i1 with
  | st hS =>
    rename_i s c
    obtain ⟨ne, p, q, ns, hs, hc, h1, h2, h3, p0, q0, q1⟩ := ok.st s c hS
    have out : ∀ H' : Hp, (∀ a o, H0 a = some o → a ≠ s → a ≠ c → H' a = some o) → StOk S H' → ∀ r : Int, 0 ≤ r → r < m → Q (.int r) H' := fun H' k st r r0 r1 =>
      hq (.int r) (.int r) H' (hR r r0 r1) (fun a o h n => k a o h (fun e => n ⟨s, c, hS, .inl e⟩) fun e => n ⟨s, c, hS, .inr e⟩) st (.int r)
    have hnl : 0 < ns.length := List.length_pos_iff.mpr h1
    obtain ⟨a0, a1⟩ := fmod_lt (a := p) (b := (ns.length : Int)) (by omega)
    generalize ha : p.fmod (ns.length : Int) = at_ at a0 a1
    obtain ⟨cell, hcell⟩ : ∃ cell, ns[at_.toNat]? = some cell := ⟨_, List.getElem?_eq_getElem (by omega)⟩
    have hcv : (ns.map V.int)[at_.toNat]? = some (.int cell) := by rw [List.getElem?_map, hcell]; rfl
    have c0 : 0 ≤ cell := h3 _ (List.mem_of_getElem? hcell)
    have eat : (at_.toNat : Int) = at_ := by omega
    have hat : atI (ns.map V.int) at_ = some (.int cell) := by rw [← eat]; exact atI_nat hcv
    refine ⟨_, rfl, s, _, 0, _, rfl, rfl, SqL.of hs, rfl, ?_⟩
    refine ⟨_, rfl, s, _, 1, _, rfl, rfl, SqL.of hs, rfl, _, rfl, c, _, rfl, .inl (SqL.of hc), _, _, rfl, rfl, (by rw [List.length_map]; omega), ?_⟩
    simp only []
    rw [List.length_map, ha]
    refine ⟨_, rfl, _, rfl, c, _, at_, _, rfl, rfl, SqL.of hc, hat, ?_⟩
    refine ⟨_, rfl, _, _, rfl, rfl, _, rfl, ?_⟩
    refine ite2 (fun hge => ?_) (fun hge => ?_)
    · have hge : (1000000000000000000 : Int) ≤ cell := of_decide_eq_true hge
      refine ⟨_, rfl, _, rfl, _, _, rfl, rfl, wide_div (b := 150) m0 (Nat.lt_trans (by omega : m.natAbs < 1000000000000000000000000000000000000000000) (by decide)) (by decide) (by decide), ?_⟩
      have hix : ixN (ns.map V.int).length at_ = some at_.toNat := by
        unfold ixN
        rw [List.length_map, if_pos a0, if_pos a1]
      refine ⟨_, rfl, _, rfl, c, _, at_, _, rfl, rfl, hc, hix, ?_⟩
      refine ⟨_, rfl, _, rfl, _, _, rfl, rfl, (by omega), ?_⟩
      obtain ⟨r0, r1⟩ := fmod_lt (a := cell) m0
      refine out _ (fun a o h n1 n2 => by rw [upd_ne n2]; exact h) (fun s' c' e => ?_) _ r0 r1
      have e := hS.symm.trans e
      cases e
      refine ⟨ne, p, q, ns.set at_.toNat (cell / m), by rw [upd_ne ne]; exact hs, by rw [upd_same, List.map_set], ?_, by rw [List.length_set]; exact h2, fun n hn => ?_, p0, q0, q1⟩
      · intro e
        have := congrArg List.length e
        rw [List.length_set] at this
        simp at this
        exact h1 this
      · rcases List.mem_or_eq_of_mem_set hn with hn | hn
        · exact h3 n hn
        · rw [hn]
          exact Int.ediv_nonneg c0 (by omega)
    · have hge : ¬ (1000000000000000000 : Int) ≤ cell := fun z => hge (decide_eq_true z)
      refine ⟨_, rfl, s, _, 1, _, rfl, rfl, SqL.of hs, rfl, _, _, rfl, rfl, ?_⟩
      refine ⟨_, rfl, s, _, 1, 1, rfl, rfl, hs, rfl, ?_⟩
      have hs1 : upd H0 s (.lst [.ref c, .int (p + 1), .int q]) s = some (.lst [.ref c, .int (p + 1), .int q]) := upd_same
      refine ⟨_, rfl, s, _, 2, _, rfl, rfl, SqL.of hs1, rfl, _, _, rfl, rfl, (.inl ⟨by omega, by omega⟩), _, rfl, _, _, rfl, rfl, _, _, rfl, rfl, _, _, rfl, rfl, (show (2147483647 : Int) ≠ 0 by decide), ?_⟩
      refine ⟨_, rfl, s, _, 2, 2, rfl, rfl, hs1, rfl, ?_⟩
      obtain ⟨q2, q3⟩ := fmod_lt (a := q * 48271 + cell + 12345) (b := 2147483647) (by decide)
      generalize hqq : (q * 48271 + cell + 12345).fmod 2147483647 = qq at q2 q3
      have e2 : List.set [V.ref c, V.int (p + 1), V.int q] 2 (V.int ((q * 48271 + cell + 12345).fmod 2147483647)) = [V.ref c, V.int (p + 1), V.int qq] := by rw [hqq]; rfl
      have hs2 : ∀ G : Hp, upd G s (.lst (List.set [V.ref c, V.int (p + 1), V.int q] 2 (V.int ((q * 48271 + cell + 12345).fmod 2147483647)))) s = some (.lst [V.ref c, V.int (p + 1), V.int qq]) := fun G => by rw [upd_same, e2]
      refine ⟨_, rfl, s, _, 2, _, rfl, rfl, SqL.of (hs2 _), rfl, _, rfl, s, _, 2, _, rfl, rfl, SqL.of (hs2 _), rfl, _, _, rfl, rfl, (.inl ⟨by omega, by omega⟩), _, _, rfl, rfl, (show (2147483629 : Int) ≠ 0 by decide), _, _, rfl, rfl, wide_div (b := 5) (by decide) (by decide) (by decide) (by decide), _, rfl, _, _, rfl, rfl, (by omega), ?_⟩
      obtain ⟨r0, r1⟩ := fmod_lt (a := (((qq * qq).fmod 2147483629) / 16)) m0
      refine out _ (fun a o h n1 n2 => by rw [upd_ne n1, upd_ne n1]; exact h) (fun s' c' e => ?_) _ r0 r1
      have e := hS.symm.trans e
      cases e
      exact ⟨ne, p + 1, qq, ns, hs2 _, by rw [upd_ne ne.symm, upd_ne ne.symm]; exact hc, h1, h2, h3, by omega, q2, q3⟩
end TC

set_option Elab.async false
set_option linter.all false
set_option maxRecDepth 100000
set_option maxHeartbeats 2000000
/-! Orders, times, signs, cycles: what the defs are to do. -/
namespace TC
open PySem PySem.Spec PyProof.Rows L2
def powL (a : List Int) : Nat → List Int
  | 0 => rgL a.length
  | k + 1 => putL (powL a k) a
def ordL (a : List Int) : Nat := ([1, 2, 3, 4, 5, 6].find? fun k => decide (powL a k = rgL a.length)).getD 0
def signIn (a : List Int) (h : Int) : List Int → Int → Int
  | [], t => t
  | l :: ls, t => signIn a h ls (if a.getD h.toNat 0 < a.getD l.toNat 0 then -t else t)
def signOut (a : List Int) : List Int → Int → Int
  | [], t => t
  | h :: hs, t => signOut a hs (signIn a h (rgL h.toNat) t)
def signL (a : List Int) : Int := signOut a (rgL a.length) 1
def cycIn (a : List Int) : Nat → List Int → List Int → Int → List Int × List Int
  | 0, seen, row, _ => (seen, row)
  | m + 1, seen, row, at_ => if seen.contains at_ = true then (seen, row) else cycIn a m (seen ++ [at_]) (row ++ [at_]) (a.getD at_.toNat 0)
def cycOut (a : List Int) : List Int → List Int → List (List Int) → List (List Int)
  | [], _, found => found
  | s :: ss, seen, found => cycOut a ss (cycIn a a.length seen [] s).1 (if (cycIn a a.length seen [] s).2 = [] then found else found ++ [(cycIn a a.length seen [] s).2])
def cycL (a : List Int) : List (List Int) := cycOut a (rgL a.length) [] []
def rowD (r : List Int) : D := .lst (r.map D.int)
def cycD (c : List (List Int)) : D := .lst (c.map rowD)
def ledIn (row : List Int) (n : Int) : List Int → List Int → List Int
  | [], f => f
  | k :: ks, f => ledIn row n ks (f.set (row.getD k.toNat 0).toNat (row.getD ((k + n).fmod row.length).toNat 0))
def ledOut (n : Int) : List (List Int) → List Int → List Int
  | [], f => f
  | row :: rows, f => ledOut n rows (ledIn row n (rgL row.length) f)
def ledL (c : List (List Int)) (size : Nat) (n : Int) : List Int := ledOut n c (List.replicate size 0)
def cycOk (c : List (List Int)) (size : Nat) : Bool := decide (c.length ≤ 5) && c.all fun r => decide (1 ≤ r.length ∧ r.length ≤ 5) && r.all fun x => decide (0 ≤ x ∧ x < size)
def rounds (c : List (List Int)) (n : Nat) : Bool := c.all fun r => decide (n % r.length = 0)
def sp_times (A : Adr) : SpD := fun ds R Z => ∃ (x : D) (n : Int), ds = [x, .int n] ∧ okT x = true ∧ (∀ a : List Int, x = tI a → tOk a = true → R (tI (powL a (n.fmod (ordL a)).toNat))) ∧ (sizeOf x = 0 → Z A.c_NoTurn)
def sp_order (A : Adr) : SpD := fun ds R Z => ∃ x : D, ds = [x] ∧ okT x = true ∧ (∀ a : List Int, x = tI a → tOk a = true → R (.int (ordL a : Nat))) ∧ (sizeOf x = 0 → Z A.c_NoTurn)
def sp_sign (A : Adr) : SpD := fun ds R Z => ∃ x : D, ds = [x] ∧ okT x = true ∧ (∀ a : List Int, x = tI a → tOk a = true → R (.int (signL a))) ∧ (sizeOf x = 0 → Z A.c_NoTurn)
def sp_law_whole (A : Adr) : SpD := fun ds R _ => ∃ i j : Int, ds = [.int i, .int j] ∧ R (.bl (decide (i = j)))
def sp_law_cycles (A : Adr) : SpD := fun ds R _ => ∃ a : List Int, ds = [tI a] ∧ tOk a = true ∧ R (cycD (cycL a))
def sp_law_led_on (A : Adr) : SpD := fun ds R _ => ∃ (c : List (List Int)) (size : Nat) (n : Int), ds = [cycD c, .int size, .int n] ∧ size ≤ 5 ∧ cycOk c size = true ∧ R (tI (ledL c size n))
def sp_law_comes_round (A : Adr) : SpD := fun ds R _ => ∃ (c : List (List Int)) (size n : Nat), ds = [cycD c] ∧ cycOk c size = true ∧ 1 ≤ n ∧ n ≤ 1000 ∧ rounds c n = true ∧ (∀ m, 1 ≤ m → m < n → rounds c m = false) ∧ R (.int n)
def sp_law_number (A : Adr) : SpD := fun ds R _ => ∃ r : Int, ds = [.st, .int r] ∧ 0 < r ∧ r ≤ 1000 ∧ ∀ i : Int, R (.int i)
end TC

set_option Elab.async false
set_option linter.all false
set_option maxRecDepth 100000
set_option maxHeartbeats 2000000
/-! Dicts keyed by rows of numbers, in the data. -/
namespace TC
open PySem PySem.Spec PyProof.Rows L2
def getK : List (List Int) → List D → List Int → Option D
  | x :: ks, d :: ds, k => if x = k then some d else getK ks ds k
  | _, _, _ => none
def repK : List (List Int) → List D → List Int → D → List D
  | x :: ks, d :: ds, k, e => (if x = k then e else d) :: repK ks ds k e
  | _, _, _, _ => []
section
variable {K : PySem.W.Frag} {S : Sts} {α : List Addr} {G : Hp} {k : List Int} {b : Addr} {u : Value} {d : D} {v : V}
theorem at_cons (x : Ent) (m : List Ent) (k : List Int) : atKey (x :: m) k = if x.1 = k then some x.2 else atKey m k := by
  simp only [atKey, List.find?_cons]
  by_cases h : x.1 = k <;> simp [h]
theorem at_isSome : ∀ m : List Ent, (atKey m k).isSome = (m.map (·.1)).contains k
  | [] => rfl
  | x :: m => by
    rw [at_cons, List.map_cons, List.contains_cons]
    by_cases h : x.1 = k
    · rw [if_pos h, h]
      simp
    · rw [if_neg h, at_isSome m, beq_eq_false_iff_ne.mpr (fun e => h e.symm), Bool.false_or]
theorem get_ok : ∀ {m : List Ent} {vs : List V} {ds : List D}, Vals vs (m.map (·.2.2)) → Iss K S α G ds vs → getK (m.map (·.1)) ds k = some d → ∃ p v, atKey m k = some p ∧ RelV v p.2 ∧ Is K S α G d v
  | [], _, _, _, _, h => by cases h
  | x :: m, vs, ds, hv, hs, h => by
    rw [List.map_cons] at hv
    cases hv with
    | cons rv hv =>
      cases hs with
      | cons i hs =>
        rw [at_cons]
        have h : (if x.1 = k then some _ else getK (m.map (·.1)) _ k) = some d := h
        by_cases e : x.1 = k
        · rw [if_pos e] at h ⊢
          cases h
          exact ⟨x.2, _, rfl, rv, i⟩
        · rw [if_neg e] at h ⊢
          exact get_ok hv hs h
theorem rep_ok : ∀ {m : List Ent} {vs : List V} {ds : List D}, Vals vs (m.map (·.2.2)) → Iss K S α G ds vs → RelV v u → Is K S α G d v →
    ∃ vs', Vals vs' ((m.map (putAt k u)).map (·.2.2)) ∧ Iss K S α G (repK (m.map (·.1)) ds k d) vs'
  | [], _, _, hv, hs, _, _ => by
    cases hv
    cases hs
    exact ⟨[], .nil, .nil⟩
  | x :: m, _, _, hv, hs, rv, i => by
    rw [List.map_cons] at hv
    cases hv with
    | @cons v1 _ _ _ r1 hv =>
      cases hs with
      | cons i1 hs =>
        obtain ⟨vs', h1, h2⟩ := rep_ok hv hs rv i
        by_cases e : x.1 = k
        · refine ⟨v :: vs', ?_, ?_⟩
          · rw [List.map_cons, List.map_cons]
            refine .cons ?_ h1
            unfold putAt
            rw [if_pos e]
            exact rv
          · show Iss K S α G ((if x.1 = k then d else _) :: _) _
            rw [if_pos e]
            exact .cons i h2
        · refine ⟨v1 :: vs', ?_, ?_⟩
          rotate_left
          · show Iss K S α G ((if x.1 = k then d else _) :: _) _
            rw [if_neg e]
            exact .cons i1 h2
          · rw [List.map_cons, List.map_cons]
            refine .cons ?_ h1
            unfold putAt
            rw [if_neg e]
            exact r1
/-- the data of a dict behind d[k] = e -/
def putD (ks : List (List Int)) (ds : List D) (k : List Int) (e : D) : List (List Int) × List D := if ks.contains k = true then (ks, repK ks ds k e) else (ks ++ [k], ds ++ [e])
theorem put_keys (m : List Ent) : (m.map (putAt k u)).map (·.1) = m.map (·.1) := by
  rw [List.map_map]
  apply List.map_congr_left
  intro x _
  show (putAt k u x).1 = x.1
  unfold putAt
  split <;> rfl
theorem vals_append : ∀ {xs ys : List V} {us ws : List Value}, Vals xs us → Vals ys ws → Vals (xs ++ ys) (us ++ ws)
  | _, _, _, _, .nil, h => h
  | _, _, _, _, .cons r t, h => .cons r (vals_append t h)
theorem put_ok {m : List Ent} {vs : List V} {ks : List (List Int)} {ds : List D} (hd : DtOk K G m ks vs) (hs : Iss K S α G ds vs) (T : TupD K G b (k.map V.int)) (rv : RelV v u) (i : Is K S α G d v) :
    ∃ vs', DtOk K G (storedH m k b u) (putD ks ds k d).1 vs' ∧ Iss K S α G (putD ks ds k d).2 vs' := by
  obtain ⟨rfl, ht, hv⟩ := hd
  unfold putD
  by_cases h : (m.map (·.1)).contains k = true
  · rw [if_pos h]
    have e : storedH m k b u = m.map (putAt k u) := by
      unfold storedH
      rw [at_isSome, if_pos h]
    rw [e]
    obtain ⟨vs', h1, h2⟩ := rep_ok (k := k) hv hs rv i
    refine ⟨vs', ⟨put_keys m, fun x hx => ?_, h1⟩, h2⟩
    obtain ⟨y, hy, rfl⟩ := List.mem_map.mp hx
    have := ht y hy
    unfold putAt
    split
    · exact this
    · exact this
  · rw [if_neg h]
    have e : storedH m k b u = m ++ [(k, b, u)] := by
      unfold storedH
      rw [at_isSome, if_neg h]
    rw [e]
    refine ⟨vs ++ [v], ⟨by rw [List.map_append]; rfl, fun x hx => ?_, ?_⟩, hs.append (.cons i .nil)⟩
    · rcases List.mem_append.mp hx with hx | hx
      · exact ht x hx
      · rw [List.mem_singleton.mp hx]
        exact T
    · rw [List.map_append]
      exact vals_append hv (.cons rv .nil)
end
/-- a tuple of numbers, as a key -/
def keyD (d : D) : Option (List Int) := match d with
  | .tup ds => ds.foldr (fun x r => match x, r with | .int i, some is => some (i :: is) | _, _ => none) (some [])
  | _ => none
theorem keyD_tup {ds : List D} {ns : List Int} (h : keyD (.tup ds) = some ns) : ds = ns.map D.int := by
  replace h : ds.foldr (fun x r => match x, r with | .int i, some is => some (i :: is) | _, _ => none) (some []) = some ns := h
  induction ds generalizing ns with
  | nil => cases h; rfl
  | cons x ds ih =>
    rw [List.foldr_cons] at h
    split at h
    · rename_i i is hq
      cases h
      rw [ih hq]
      rfl
    · cases h
theorem keyD_ints (ns : List Int) : keyD (.tup (ns.map D.int)) = some ns := by
  show (ns.map D.int).foldr (fun x r => match x, r with | .int i, some is => some (i :: is) | _, _ => none) (some []) = some ns
  induction ns with
  | nil => rfl
  | cons n ns ih => rw [List.map_cons, List.foldr_cons, ih]
theorem key_is {K : PySem.W.Frag} {S : Sts} {α : List Addr} {G : Hp} {y : D} {v : V} {ns : List Int} (h : Is K S α G y v) (e : keyD y = some ns) : ∃ b, v = .ref b ∧ TupD K G b (ns.map V.int) := by
  cases y with
  | tup ds =>
    have e := keyD_tup e
    subst e
    cases h with
    | tup h q =>
      have := q.ints
      subst this
      exact ⟨_, rfl, h⟩
  | _ => cases e
/-- the dict that x is -/
def dtOf (x : D) (μ : Mem) : Option (List (List Int) × List D) := match x with
  | .dt ks ds => some (ks, ds)
  | .mt k => match μ[k]? with
    | some (.dt ks ds) => some (ks, ds)
    | _ => none
  | _ => none
section
variable {X : Cx} {C : Cfg} {W : WX} {a b e o : Expr} {st : Stmt} {wa wb we wo wi : DX} {pos : Pos} {α : List Addr} {σ : L2.St} {H : Hp} {Γ : Gam} {μ : Mem} {d x y : D} {v u : V}
theorem Rl.dict (r : Rl C α σ H Γ μ) (h : Is C.K C.S α (gk C α μ H) x v) {ks : List (List Int)} {ds : List D} (e : dtOf x μ = some (ks, ds)) :
    ∃ a m vs, v = .ref a ∧ DRd H a m ∧ DtOk C.K (gk C α μ H) m ks vs ∧ Iss C.K C.S α (gk C α μ H) ds vs := by
  unfold dtOf at e
  cases h with
  | dt h l q => cases e; exact ⟨_, _, _, rfl, .inr ⟨_, gk_ex _ _ h⟩, l, q⟩
  | mt hk =>
    rename_i k
    have e : (match μ[k]? with | some (.dt ks ds) => some (ks, ds) | _ => none) = some (ks, ds) := e
    split at e
    · rename_i ks' ds' q
      cases e
      obtain ⟨m, vs, h1, h2, h3⟩ := r.cells k _ _ hk q
      exact ⟨_, m, vs, rfl, .inl h1, h2, h3⟩
    · cases e
  | _ => cases e
theorem DtOk.kd {K : PySem.W.Frag} {H G : Hp} {a : Addr} {m : List Ent} {ks : List (List Int)} {vs : List V} (h : DRd H a m) (l : DtOk K G m ks vs) (e : Ex G H) : KD K H H a m := ⟨h, fun x hx => e.tupd (l.2.1 x hx)⟩
/-- d[t] -/
def dDGet : D → D → Mem → RD → Prop := fun x y μ R => match dtOf x μ, keyD y with
  | some (ks, ds), some k => match getK ks ds k with
    | some d => R d μ
    | none => False
  | _, _ => False
theorem sn_dget : SndOp C (rDGetI C.K) dDGet := by
  intro x y v u α σ H Γ μ R Q r ix iy w k
  unfold dDGet at w
  split at w
  · rename_i ks ds kk hd hk
    split at w
    · rename_i d hg
      obtain ⟨a, m, vs, rfl, h1, h2, h3⟩ := r.dict ix hd
      obtain ⟨b, rfl, T⟩ := key_is iy hk
      have e := h2.1
      subst e
      obtain ⟨p, v, hp, rv, i⟩ := get_ok h2.2.2 h3 hg
      exact ⟨a, m, b, kk, p, v, rfl, rfl, h2.kd h1 gk_ex, gk_ex.tupd T, hp, rv, k _ _ _ _ _ w r Mv.refl i⟩
    · exact w.elim
  · exact w.elim
/-- t in d, t not in d -/
def dDIn (neg : Bool) : D → D → Mem → RD → Prop := fun y x μ R => match dtOf x μ, keyD y with
  | some (ks, _), some k => R (.bl (if neg then !ks.contains k else ks.contains k)) μ
  | _, _ => False
theorem sn_din {neg : Bool} : SndOp C (rDInI C.K neg) (dDIn neg) := by
  intro x y v u α σ H Γ μ R Q r ix iy w k
  unfold dDIn at w
  split at w
  · rename_i ks ds kk hd hk
    obtain ⟨a, m, vs, rfl, h1, h2, h3⟩ := r.dict iy hd
    obtain ⟨b, rfl, T⟩ := key_is ix hk
    refine ⟨a, m, b, kk, rfl, rfl, h2.kd h1 gk_ex, gk_ex.tupd T, ?_⟩
    rw [at_isSome, h2.1]
    exact k _ _ _ _ _ w r Mv.refl (.bl _)
  · exact w.elim
theorem de_dget (hK : X.K = C.K) (hu : X.A.units + 1 < cLine) (ha : DE X C W a wa) (hb : DE X C W b wb) (hs : NoSl b) : DE X C W (.Subscript a b pos) (wBin dDGet wa wb) :=
  PE.imp (pe_dgetI hu ha hb hs) fun σ H Q h => by
    rw [hK]
    exact two (W := W) sn_dget h
theorem dt_din (hK : X.K = C.K) (hu : X.A.units + 1 < cLine) (ha : DE X C W a wa) (hb : DE X C W b wb) (hm : behindInMarks .In b = false) : DTs X C W (.Compare a [.In] [b] pos) (wTest (wBin (dDIn false) wa wb)) :=
  dt_cmp (by have h := op_inI (X := X) hu; rw [hK] at h; exact h) sn_din ha hb hm
theorem dt_dnotin (hK : X.K = C.K) (hu : X.A.units + 1 < cLine) (ha : DE X C W a wa) (hb : DE X C W b wb) (hm : behindInMarks .NotIn b = false) : DTs X C W (.Compare a [.NotIn] [b] pos) (wTest (wBin (dDIn true) wa wb)) :=
  dt_cmp (by have h := op_notInI (X := X) hu; rw [hK] at h; exact h) sn_din ha hb hm
/-- d[t] = e -/
def wSetK (wo wi we : DX) : DS := fun Γ μ P => we Γ μ (fun d μ1 => wo Γ μ1 (fun o μ2 => wi Γ μ2 (fun i μ3 => match o, keyD i with
  | .mt n, some k => match μ3[n]? with
    | some (.dt ks ds) => ks.length < big ∧ P.nx Γ (μ3.set n (.dt (putD ks ds k d).1 (putD ks ds k d).2))
    | _ => False
  | _, _ => False) P.rz) P.rz) P.rz
theorem ds_setK (hK : X.K = C.K) (h : PS X st (tAsg (canE C W we) (gSub (canE C W wo) (canE C W wi) (rDSetI X.K)))) : DSt X C W st (wSetK wo wi we) := h.imp fun D σ H ⟨α, Γ, μ, P, r, w, n, t, b, c, z⟩ => by
  refine ⟨α, Γ, μ, _, _, r, w, fun d v α1 μ1 H1 w1 r1 m1 i1 => ?_, z⟩
  refine ⟨α1, Γ, μ1, _, _, r1, w1, fun o u α2 μ2 H2 w2 r2 m2 i2 => ?_, z.mv m1⟩
  refine ⟨α2, Γ, μ2, _, _, r2, w2, fun i y α3 μ3 H3 w3 r3 m3 i3 => ?_, z.mv (m1.trans m2)⟩
  have io := m3.is i2
  have id := (m2.trans m3).is i1
  split at w3
  · rename_i nn kk hk
    obtain ⟨bb, rfl, T⟩ := key_is i3 hk
    cases io with
    | mt hn =>
      split at w3
      · rename_i ks ds hq
        obtain ⟨hl, w3⟩ := w3
        obtain ⟨m, vs, h1, h2, h3⟩ := r3.cells _ _ _ hn hq
        have ml : m.length = ks.length := by rw [← h2.1, List.length_map]
        refine ⟨_, m, bb, kk, rfl, rfl, by rw [hK]; exact ⟨h1, h2.kd (.inl h1) gk_ex⟩, by rw [hK]; exact gk_ex.tupd T, by rw [ml]; exact big_lt hl, fun u ru => ?_⟩
        obtain ⟨vs', p1, p2⟩ := put_ok (b := bb) h2 h3 T ru id
        obtain ⟨r4, m4⟩ := r3.write (c := .dt (putD ks ds kk d).1 (putD ks ds kk d).2) hn (by rw [hq]; exact fun q => nomatch q) ⟨_, vs', upd_same, p1, p2⟩ (fun q => nomatch q)
        exact n _ _ _ _ _ w3 r4 (m1.trans (m2.trans (m3.trans m4)))
      · exact w3.elim
  · exact w3.elim
/-- {}, a dict that will be filled -/
def wDictM : DX := fun _ μ R _ => R (.mt μ.length) (μ ++ [.dt [] []])
theorem de_dictM : DE X C W (.Dict [] [] pos) wDictM := PE.imp pe_dnewI fun σ H Q ⟨α, Γ, μ, R, Z, r, w, k, z⟩ p hp => by
  obtain ⟨r2, m2⟩ := r.grow (o := .ext (DictI p [])) (c := .dt [] []) hp ⟨[], [], upd_same, ⟨rfl, (fun x hx => by cases hx), Paired.nil⟩, Iss.nil⟩ (fun q => nomatch q)
  exact k _ _ _ _ _ w r2 m2 (.mt (by rw [← r.len]; simp))
end
end TC

set_option Elab.async false
set_option linter.all false
set_option maxRecDepth 100000
set_option maxHeartbeats 2000000
/-! setdefault, get, of dicts keyed by rows of numbers. -/
namespace TC
open PySem PySem.Spec PyProof.Rows L2
section
variable {X : Cx} {pins : List (Addr × Obj)} {σ : L2.St} {H : Hp} {s : Shared} {a : Addr} {m : List Ent}
theorem isDI_at (I : Inv X pins σ H s) (d : DRd H a m) : s.TypeIs (.ref a) "dict" ∧ (∀ b, Value.ref a = .ref b → ∃ ob, s.heap.get? b = some ob ∧ ob.dict = none) ∧ (a == sysModules) = false := by
  obtain ⟨⟨z, y⟩, o, es, ep, h1, h2, h3, h4, h5⟩ := dict_at I d
  refine ⟨⟨o, h1, h2.1⟩, fun b q => ?_, y⟩
  cases q
  exact ⟨o, h1, h2.2.1⟩
/-- d.setdefault(t, z) -/
def tDSetdI (K : PySem.W.Frag) (td ty tx : TE) : TE := fun σ H Q => td σ H fun x H1 => ∃ a m0, x = .ref a ∧ DRd H1 a m0 ∧ ty σ H1 fun y H2 => tx σ H2 fun z H3 => ∃ m b k, y = .ref b ∧ (H3 a = some (.ext (DictI a m)) ∧ KD K H3 H3 a m) ∧ TupD K H3 b (k.map V.int) ∧ m.length < sizeLine ∧
  (∀ p, atKey m k = some p → ∃ v, RelV v p.2 ∧ Q v H3) ∧ (atKey m k = none → ∀ u, RelV z u → Q z (upd H3 a (.ext (DictI a (storedH m k b u)))))
theorem pe_dsetdI {o e f : Expr} {td ty tx : TE} {apos cpos : Pos} (hu : X.A.units + 1 < cLine) (ho : PE X o td) (he : PE X e ty) (hf : PE X f tx) (M : M2 X o "setdefault" apos e f cpos) : PE X (.Call (.Attribute o "setdefault" apos) [e, f] [] cpos) (tDSetdI X.K td ty tx) := by
  refine ⟨fun pins s σ H Q I h => ?_⟩
  refine wpAny_Call_method M.base M.few M.line PySem.F.plainAttrs_dict PySem.F.slot_dict_setdefault PySem.F.type_dict_setdefault (thn (ho.run pins s σ H _ I h) fun u s1 ⟨x, H1, I1, rx, a, m0, ex, d, q1⟩ => ?_)
  subst ex
  obtain rfl : u = Value.ref a := rx
  obtain ⟨t1, t2, _⟩ := isDI_at I1 d
  refine ⟨t1, t2, ?_⟩
  rw [M.trees]
  refine Calls.callWith_builtin rfl (Calls.evalArgs_plain (Calls.spliced_cons (thn (he.run pins s1 σ H1 _ I1 q1) fun iv s2 ⟨y, H2, I2, ry, q2⟩ =>
    Calls.spliced_cons (thn (hf.run pins s2 σ H2 _ I2 q2) fun fv s3 ⟨z, H3, I3, rz, m, b, k, ey, ⟨k0, kd⟩, T, hl, q3, q4⟩ => Calls.spliced_nil ?_))))
  subst ey
  cases ry
  obtain ⟨zl, hd, dd⟩ := dict_of I3 kd
  refine call_setdefault_heap (hsz := zl) (tupleKind_room_in1 hu) (key_int I3 T) hd dd (fun p hp => ?_) fun hn h' dd' hs => ?_
  · obtain ⟨v, rv, q⟩ := q3 p hp
    exact ⟨v, H3, I3.tok _, rv, q⟩
  · obtain ⟨q2, es, ep, hq, h2, h3, h4, _, h5⟩ := dd'
    have hl' : (storedH m k b fv).length ≤ sizeLine := by
      have := len_stored m k b fv
      omega
    exact ⟨z, _, d_write I3 (by rw [k0]; exact True.intro) hs ⟨q2, hq⟩ (dictI_ok ⟨⟨hl', hd⟩, q2, es, ep, hq, h2, h3, h4, h5⟩), rz, q4 hn fv rz⟩
/-- d.get(t) -/
def tDGetI1 (K : PySem.W.Frag) (td ty : TE) : TE := fun σ H Q => td σ H fun x H1 => ∃ a m0, x = .ref a ∧ DRd H1 a m0 ∧ ty σ H1 fun y H2 => ∃ m b k, y = .ref b ∧ KD K H2 H2 a m ∧ TupD K H2 b (k.map V.int) ∧
  (∀ p, atKey m k = some p → ∃ v, RelV v p.2 ∧ Q v H2) ∧ (atKey m k = none → Q .non H2)
theorem pe_dgetI1 {o e : Expr} {td ty : TE} {apos cpos : Pos} (hu : X.A.units + 1 < cLine) (ho : PE X o td) (he : PE X e ty) (M : M1 X o "get" apos e cpos) : PE X (.Call (.Attribute o "get" apos) [e] [] cpos) (tDGetI1 X.K td ty) := by
  refine ⟨fun pins s σ H Q I h => ?_⟩
  refine wpAny_Call_method M.base M.few M.line PySem.F.plainAttrs_dict PySem.F.slot_dict_get PySem.F.type_dict_get (thn (ho.run pins s σ H _ I h) fun u s1 ⟨x, H1, I1, rx, a, m0, ex, d, q1⟩ => ?_)
  subst ex
  obtain rfl : u = Value.ref a := rx
  obtain ⟨t1, t2, _⟩ := isDI_at I1 d
  refine ⟨t1, t2, ?_⟩
  rw [M.trees]
  refine Calls.callWith_builtin rfl (Calls.evalArgs_plain (Calls.spliced_cons (thn (he.run pins s1 σ H1 _ I1 q1) fun iv s2 ⟨y, H2, I2, ry, m, b, k, ey, kd, T, q2, q3⟩ => Calls.spliced_nil ?_)))
  subst ey
  cases ry
  obtain ⟨zl, hd, dd⟩ := dict_of I2 kd
  refine call_meetsIn PySem.F.slot_dict_get dd.typeIs PySem.F.entry_dict_get (PySem.F.args_dict_get_2 _ _) (meetsH_dict_get (tupI X.prog X.w) a b hd) ⟨tupleKind_room_in1 hu, k, m, key_int I2 T, dd, ?_⟩
  cases hk : atKey m k with
  | none => exact ⟨.non, H2, I2.tok _, rfl, q3 hk⟩
  | some p =>
    obtain ⟨v, rv, q⟩ := q2 p hk
    exact ⟨v, H2, I2.tok _, rv, q⟩
end
section
variable {X : Cx} {C : Cfg} {W : WX} {e f o : Expr} {we wo wf : DX} {apos cpos : Pos}
theorem rel_at {m : List Ent} {vs : List V} {k : List Int} {p : Addr × Value} : ∀ {m : List Ent} {vs : List V}, Vals vs (m.map (·.2.2)) → atKey m k = some p → ∃ v, RelV v p.2
  | [], _, _, h => by cases h
  | x :: m, vs, hv, h => by
    rw [List.map_cons] at hv
    cases hv with
    | cons rv hv =>
      rw [at_cons] at h
      by_cases e : x.1 = k
      · rw [if_pos e] at h
        cases h
        exact ⟨_, rv⟩
      · rw [if_neg e] at h
        exact rel_at (m := m) (vs := vs) hv h
/-- d.setdefault(t, z), d a dict that changes -/
def wSetd (wo we wf : DX) : DX := fun Γ μ R Z => wo Γ μ (fun o μ1 => (dtOf o μ1).isSome = true ∧ we Γ μ1 (fun y μ2 => wf Γ μ2 (fun d μ3 => match o, keyD y with
  | .mt n, some k => match μ3[n]? with
    | some (.dt ks ds) => ks.length < big ∧ match getK ks ds k with
      | some d' => ks.contains k = true ∧ R d' μ3
      | none => ks.contains k = false ∧ R d (μ3.set n (.dt (ks ++ [k]) (ds ++ [d])))
    | _ => False
  | _, _ => False) Z) Z) Z
theorem de_setd (hK : X.K = C.K) (hu : X.A.units + 1 < cLine) (ho : DE X C W o wo) (he : DE X C W e we) (hf : DE X C W f wf) (M : M2 X o "setdefault" apos e f cpos) : DE X C W (.Call (.Attribute o "setdefault" apos) [e, f] [] cpos) (wSetd wo we wf) :=
  PE.imp (pe_dsetdI hu ho he hf M) fun σ H Q ⟨α, Γ, μ, R, Z, r, w, k, z⟩ => by
    rw [hK]
    refine ⟨α, Γ, μ, _, Z, r, w, fun od v α1 μ1 H1 w1 r1 m1 i1 => ?_, z⟩
    obtain ⟨hs, w1⟩ := w1
    obtain ⟨⟨ks0, ds0⟩, hdt⟩ := Option.isSome_iff_exists.mp hs
    obtain ⟨a, m0, vs0, rfl, h1, _, _⟩ := r1.dict i1 hdt
    refine ⟨a, m0, rfl, h1, α1, Γ, μ1, _, Z, r1, w1, fun y u α2 μ2 H2 w2 r2 m2 i2 => ?_, z.mv m1⟩
    refine ⟨α2, Γ, μ2, _, Z, r2, w2, fun d v3 α3 μ3 H3 w3 r3 m3 i3 => ?_, z.mv (m1.trans m2)⟩
    have io := (m2.trans m3).is i1
    have mm := m1.trans (m2.trans m3)
    split at w3
    · rename_i nn kk hk
      obtain ⟨bb, rfl, T⟩ := key_is (m3.is i2) hk
      cases io with
      | mt hn =>
        split at w3
        · rename_i ks ds hq
          obtain ⟨hl, w3⟩ := w3
          obtain ⟨m, vs, g1, g2, g3⟩ := r3.cells _ _ _ hn hq
          have ml : m.length = ks.length := by rw [← g2.1, List.length_map]
          have hin := at_isSome (k := kk) m
          rw [g2.1] at hin
          refine ⟨m, bb, kk, rfl, ⟨g1, g2.kd (.inl g1) gk_ex⟩, gk_ex.tupd T, by rw [ml]; exact big_lt hl, fun p hp => ?_, fun hn0 u ru => ?_⟩
          · split at w3
            · rename_i d' hg
              have e := g2.1
              subst e
              obtain ⟨p', v', hp', rv, i⟩ := get_ok g2.2.2 g3 hg
              rw [hp] at hp'
              cases hp'
              exact ⟨v', rv, k _ _ _ _ _ w3.2 r3 mm i⟩
            · rw [w3.1, hp] at hin
              cases hin
          · split at w3
            · rw [w3.1, hn0] at hin
              cases hin
            · obtain ⟨vs', p1, p2⟩ := put_ok (b := bb) g2 g3 T ru i3
              have e : putD ks ds kk d = (ks ++ [kk], ds ++ [d]) := by
                unfold putD
                rw [w3.1, if_neg (by decide)]
              rw [e] at p1 p2
              obtain ⟨r4, m4⟩ := r3.write (c := .dt (ks ++ [kk]) (ds ++ [d])) hn (by rw [hq]; exact fun q => nomatch q) ⟨_, vs', upd_same, p1, p2⟩ (fun q => nomatch q)
              exact k _ _ _ _ _ w3.2 r4 (mm.trans m4) (m4.is i3)
        · exact w3.elim
    · exact w3.elim
/-- d.get(t) -/
def wGet1 (wo we : DX) : DX := fun Γ μ R Z => wo Γ μ (fun o μ1 => (dtOf o μ1).isSome = true ∧ we Γ μ1 (fun y μ2 => match dtOf o μ2, keyD y with
  | some (ks, ds), some k => match getK ks ds k with
    | some d' => ks.contains k = true ∧ R d' μ2
    | none => ks.contains k = false ∧ R .non μ2
  | _, _ => False) Z) Z
theorem de_get1 (hK : X.K = C.K) (hu : X.A.units + 1 < cLine) (ho : DE X C W o wo) (he : DE X C W e we) (M : M1 X o "get" apos e cpos) : DE X C W (.Call (.Attribute o "get" apos) [e] [] cpos) (wGet1 wo we) :=
  PE.imp (pe_dgetI1 hu ho he M) fun σ H Q ⟨α, Γ, μ, R, Z, r, w, k, z⟩ => by
    rw [hK]
    refine ⟨α, Γ, μ, _, Z, r, w, fun od v α1 μ1 H1 w1 r1 m1 i1 => ?_, z⟩
    obtain ⟨hs, w1⟩ := w1
    obtain ⟨⟨ks0, ds0⟩, hdt⟩ := Option.isSome_iff_exists.mp hs
    obtain ⟨a, m0, vs0, rfl, h1, _, _⟩ := r1.dict i1 hdt
    refine ⟨a, m0, rfl, h1, α1, Γ, μ1, _, Z, r1, w1, fun y u α2 μ2 H2 w2 r2 m2 i2 => ?_, z.mv m1⟩
    have io := m2.is i1
    have mm := m1.trans m2
    split at w2
    · rename_i ks ds kk hd hk
      obtain ⟨bb, rfl, T⟩ := key_is i2 hk
      obtain ⟨a', m, vs, ea, g1, g2, g3⟩ := r2.dict io hd
      cases ea
      have hin := at_isSome (k := kk) m
      rw [g2.1] at hin
      refine ⟨m, bb, kk, rfl, g2.kd g1 gk_ex, gk_ex.tupd T, fun p hp => ?_, fun hn0 => ?_⟩
      · split at w2
        · rename_i d' hg
          have e := g2.1
          subst e
          obtain ⟨p', v', hp', rv, i⟩ := get_ok g2.2.2 g3 hg
          rw [hp] at hp'
          cases hp'
          exact ⟨v', rv, k _ _ _ _ _ w2.2 r2 mm i⟩
        · rw [w2.1, hp] at hin
          cases hin
      · split at w2
        · rw [w2.1, hn0] at hin
          cases hin
        · exact k _ _ _ _ _ w2.2 r2 mm .non
    · exact w2.elim
end
end TC

set_option Elab.async false
set_option linter.all false
set_option maxRecDepth 100000
set_option maxHeartbeats 2000000
/-! Dicts keyed by rows of numbers come to rest; for t in d. -/
namespace TC
open PySem PySem.Spec PyProof.Rows L2
section
variable {X : Cx} {tg e : Expr} {t td : TE}
/-- what e gives comes to rest -/
theorem pe_frzT (h : PE X e t) : PE X e (fun σ H Q => t σ H fun v H1 => ∃ d u, v = .ref d ∧ H1 d = some u ∧ Mut (some u) ∧ ∀ od, Q v (upd H1 d (.frz od u))) := by
  refine ⟨fun pins s σ H Q I hw => ?_⟩
  refine thn (h.run pins s σ H _ I hw) fun v s1 ⟨x, H1, I1, r1, d, u, ex, hd, mu, q⟩ => ?_
  obtain ⟨od, I2⟩ := I1.lock hd mu
  exact ⟨x, _, I2, r1, q od⟩
/-- the keys of the resting dict at d, in their order -/
def Itki (d : Addr) (o : Obj) (m : List Ent) : It :=
  ⟨fun i H => H d = some (.frz o (.ext (DictI d m))) ∧ i < m.length, fun i H x H' => H' = H ∧ ∃ e, m[i]? = some e ∧ x = .ref e.2.1, fun i H => H d = some (.frz o (.ext (DictI d m))) ∧ m.length ≤ i⟩
theorem frzI {pins : List (Addr × Obj)} {σ : L2.St} {H : Hp} {s : Shared} {d : Addr} {o : Obj} {m : List Ent} (I : Inv X pins σ H s) (h : H d = some (.frz o (.ext (DictI d m)))) :
    (d == sysModules) = false ∧ s.heap.get? d = some o ∧ o.ExactDict ∧ ∃ (es : Array DictEntry) (ep : Nat), o.data = .dict es ep ∧ es.size = m.length ∧ ∀ (i : Nat) (x : Ent), m[i]? = some x → es[i]? = some (entI x) := by
  obtain ⟨hd, ⟨⟨z, y⟩, o', es, ep, ho, hx, hdt, he, _⟩, _⟩ := I.hok d _ h
  rw [hd] at ho
  cases ho
  refine ⟨y, hd, hx, es, ep, hdt, ?_, fun i x hx => ?_⟩
  · have := congrArg List.length he
    simpa using this
  · rw [← Array.getElem?_toList, he, List.getElem?_map, hx]
    rfl
theorem turn_keysI {P : Program} {w : World} {K : PySem.W.Frag} {d : Addr} {o : Obj} {es : Array DictEntry} {ep : Nat} {m : List Ent} (it : Addr) (hod : o.data = .dict es ep) : Turn P w K tg (Itki d o m) [it] it (fun i h => h.IsKeyIter it d i m.length ep) where
  mem := by simp
  obj := fun i h st b hb => by
    have e : b = it := by simpa using hb
    subst e
    obtain ⟨oi, e, c, dd⟩ := st
    exact ⟨oi, e, fun v z => by rw [dd] at z; cases z⟩
  keep := fun i h h' st k => st.at fun oi e => k it (by simp) oi e
  item := by
    intro X hP hw hK hc i pins s σ H E I hf st hg
    subst hP hw hK
    obtain ⟨hd, hi⟩ := hg
    obtain ⟨f0, f1, f2, f3, f4, f5⟩ := hf it (by simp)
    obtain ⟨hs, hgd, hx, es', ep', hdt, hsz, ent⟩ := frzI I hd
    obtain ⟨rfl, rfl⟩ := dict_ep hod hdt
    obtain ⟨x, hx'⟩ : ∃ p, m[i]? = some p := ⟨m[i], List.getElem?_eq_getElem hi⟩
    refine next_key_item st hgd hdt hsz (ent i x hx') fun h' st' sb => ?_
    have I1 : Inv X pins σ H { s with heap := h' } := I.turned (t' := s.toks) (fun b ob hb e => (sb.2 b hb).trans e) f0 f1 f3 f4 f5
    obtain ⟨oi, e, c, dd⟩ := id st'
    exact ⟨_, rfl, go_of (s := { s with heap := h' }) e c dd (by decide) ⟨.ref x.2.1, H, I1, rfl, ⟨rfl, x, hx', rfl⟩, st', fun b hb => (hf b hb).1⟩⟩
  done := by
    intro X hP hw hK hc i pins s σ H E I hf st hg
    subst hP hw hK
    obtain ⟨hd, hi⟩ := hg
    obtain ⟨f0, f1, f2, f3, f4, f5⟩ := hf it (by simp)
    obtain ⟨hs, hgd, hx, es', ep', hdt, hsz, ent⟩ := frzI I hd
    obtain ⟨rfl, rfl⟩ := dict_ep hod hdt
    exact next_key_end (I.ok.hd hc) st hgd hdt hsz hi fun h' eb => ⟨rfl, I.turned (t' := s.toks) (fun b ob hb e => eb b ob hb e) f0 f1 f3 f4 f5⟩
  self := fun A i s Q E st h => by
    refine wpAny_pyIter_slot st.typeIs F.slot_dict_keyiterator_iter (wpAny_call_entry F.slot_dict_keyiterator_iter st.typeIs F.entry_dict_keyiterator_iter ?_ (F.args_dict_keyiterator_iter_1 _))
    show wpAny _ _ (ret (.ref it)) _ _ s
    exact wpAny_pure ⟨_, rfl, "dict_keyiterator", _, st.typeIs, F.slot_dict_keyiterator_next.lookup, h⟩
def iKeysI (td : TE) : TI := fun σ H R => td σ H fun x H1 => ∃ d o m, x = .ref d ∧ H1 d = some (.frz o (.ext (DictI d m))) ∧ R (Itki d o m) H1
theorem pi_keysI (he : PE X e td) : PI X tg e (iKeysI td) := by
  refine ⟨fun pins s σ H R I h => ?_⟩
  refine thn (he.run pins s σ H _ I h) fun u s1 ⟨x, H1, I1, rx, d, o, m, ex, hd, q⟩ => ?_
  subst ex
  obtain rfl : u = Value.ref d := rx
  obtain ⟨hs, hgd, hx, es, ep, hdt, hsz, ent⟩ := frzI I1 hd
  refine iter_keys hs hgd hx hdt (pi_one (tk := s1.toks) I1 _ (turn_keysI _ hdt) ⟨_, Heap.get?_push_size _ rfl, rfl, ?_⟩ q)
  rw [hsz] <;> rfl
theorem wk_keys {d : Addr} {o : Obj} {m : List Ent} : Wk (Itki d o m) (m.map fun x => V.ref x.2.1) (fun H => H d = some (.frz o (.ext (DictI d m)))) where
  go := fun i H h l => ⟨h, by simpa using l⟩
  yl := fun i H x H' h l y => by
    obtain ⟨e, z, hz, rfl⟩ := y
    exact ⟨e, by rw [List.getElem?_map, hz]; rfl⟩
  stop := fun i H h e => ⟨h, by rw [List.length_map] at e; omega⟩
end
section
variable {X : Cx} {C : Cfg} {W : WX} {tg e l : Expr} {we : DX}
/-- a dict that was filled comes to rest and is handed on -/
def wFrzD (we : DX) : DX := fun Γ μ R Z => we Γ μ (fun d μ1 => match d with
  | .mt k => match μ1[k]? with
    | some (.dt ks ds) => R (.dt ks ds) (μ1.set k .dead)
    | _ => False
  | .dt ks ds => False
  | _ => False) Z
theorem de_frzD (h : DE X C W e we) : DE X C W e (wFrzD we) := PE.imp (pe_frzT h) fun σ H Q ⟨α, Γ, μ, R, Z, r, w, k, z⟩ =>
  ⟨α, Γ, μ, _, Z, r, w, fun d v α1 μ1 H1 w1 r1 m1 i1 => by
    split at w1
    · rename_i n
      cases i1 with
      | mt hk =>
        rename_i a
        split at w1
        · rename_i ks ds hq
          obtain ⟨m, vs, h1, h2, h3⟩ := r1.cells n _ _ hk hq
          refine ⟨a, _, rfl, h1, True.intro, fun od => ?_⟩
          obtain ⟨r2, m2⟩ := r1.write (o := .frz od (.ext (DictI a m))) (c := .any) hk (by rw [hq]; exact fun q => nomatch q) True.intro (fun q => nomatch q)
          obtain ⟨r3, m3⟩ := r2.kill (k := n)
          have es : (μ1.set n Cell.any).set n Cell.dead = μ1.set n .dead := List.set_set ..
          rw [es] at r3 m3
          have mm := m2.trans m3
          have hn : n < μ1.length := (List.getElem?_eq_some_iff.mp hq).1
          have free := r3.dead_free hk (by rw [List.getElem?_set_self hn])
          exact k _ _ _ _ _ w1 r3 (m1.trans mm) (.dt (gk_of upd_same free) ⟨h2.1, fun x hx => mm.ex.tupd (h2.2.1 x hx), h2.2.2⟩ (mm.iss h3))
        · exact w1.elim
    · exact w1.elim
    · exact w1.elim, z⟩
def keysD (ks : List (List Int)) : List D := ks.map fun k => .tup (k.map D.int)
theorem keysD_is {K : PySem.W.Frag} {S : Sts} {α : List Addr} {G : Hp} : ∀ {m : List Ent}, (∀ x ∈ m, TupD K G x.2.1 (x.1.map V.int)) → Iss K S α G (keysD (m.map (·.1))) (m.map fun x => V.ref x.2.1)
  | [], _ => .nil
  | x :: m, h => .cons (.tup (h x (List.mem_cons_self ..)) (Iss.of_ints _)) (keysD_is fun y hy => h y (List.mem_cons_of_mem _ hy))
/-- for t in d, d at rest -/
def wKeys (w : DX) : DA := fun Γ μ R Z => w Γ μ (fun d μ1 => match d with
  | .dt ks _ => R (keysD ks) μ1
  | _ => False) Z
theorem di_keys (h : DE X C W l we) : DI X C W tg l (wKeys we) := (pi_keysI h).imp fun σ H Q ⟨α, Γ, μ, R, Z, r, w, k, z⟩ => by
  refine ⟨α, Γ, μ, _, Z, r, w, fun d v α1 μ1 H1 w1 r1 m1 i1 => ?_, z⟩
  cases i1 with
  | dt h l q =>
    have e := l.1
    subst e
    exact ⟨_, _, _, rfl, gk_ex _ _ h, k _ _ _ _ α1 μ1 H1 w1 r1 m1 (keysD_is l.2.1) wk_keys fun α2 μ2 H2 m2 => gk_ex _ _ (m2.ex _ _ h)⟩
  | _ => exact w1.elim
end
end TC

set_option Elab.async false
set_option linter.all false
set_option maxRecDepth 100000
set_option maxHeartbeats 2000000
/-! Calls of defs that change what is handed to them: the def goes on with the caller's own things. -/
namespace TC
open PySem PySem.Spec PyProof.Rows L2
abbrev SpM := List D → Mem → (D → Mem → Prop) → (Addr → Mem → Prop) → Prop
/-- all but the names -/
abbrev Rl0 (C : Cfg) (α : List Addr) (H : Hp) (μ : Mem) : Prop := Rl C α [] H [] μ
theorem Rl.zero {C : Cfg} {α : List Addr} {σ : L2.St} {H : Hp} {Γ : Gam} {μ : Mem} (r : Rl C α σ H Γ μ) : Rl0 C α H μ := r.senv rfl fun i d q => by simp at q
theorem Rl.names {C : Cfg} {α α' : List Addr} {σ : L2.St} {H H' : Hp} {Γ : Gam} {μ μ' : Mem} (r : Rl C α σ H Γ μ) (r0 : Rl0 C α' H' μ') (m : Mv C α μ H α' μ' H') : Rl C α' σ H' Γ μ' := r0.senv r.slen fun i d q => by
  obtain ⟨v, h1, h2⟩ := r.env i d q
  exact ⟨v, h1, m.is h2⟩
def toSpM (K : PySem.W.Frag) (n : Nat) (f : SpM) : Sp := fun vs H Q E => vs.length = n ∧ ∃ (C : Cfg) (α : List Addr) (μ : Mem) (ds : List D) (R : D → Mem → Prop) (Z : Addr → Mem → Prop), C.K = K ∧ Rl0 C α H μ ∧ Iss K C.S α (gk C α μ H) ds vs ∧ f ds μ R Z ∧
  (∀ d v α' μ' H', R d μ' → Rl0 C α' H' μ' → Mv C α μ H α' μ' H' → Is K C.S α' (gk C α' μ' H') d v → Q v H') ∧
  (∀ cl α' μ' H', Z cl μ' → Rl0 C α' H' μ' → Mv C α μ H α' μ' H' → E (.ref cl) none H')
theorem start_rlM {C : Cfg} {α : List Addr} {H : Hp} {μ : Mem} (r : Rl0 C α H μ) {N : List Str} {ds : List D} {vs : List V} (h : Iss C.K C.S α (gk C α μ H) ds vs) : Rl C α (L2.start N vs) H (gam0 N.length ds) μ :=
  r.senv (by unfold gam0 L2.start; simp [h.length]) fun i d q => by
    unfold gam0 at q
    unfold L2.start
    by_cases hi : i < ds.length
    · rw [List.getElem?_append_left (by simpa using hi), List.getElem?_map] at q
      cases e : ds[i]? with
      | none => rw [e] at q; cases q
      | some d' =>
        rw [e] at q
        cases q
        obtain ⟨v, h1, h2⟩ := h.get e
        refine ⟨v, ?_, h2⟩
        rw [List.getElem?_append_left (by rw [List.length_map, ← h.length]; exact hi), List.getElem?_map, h1]
        rfl
    · rw [List.getElem?_append_right (by simpa using Nat.le_of_not_lt hi)] at q
      have := List.mem_of_getElem? q
      have := (List.mem_replicate.mp this).2
      cases this
section
variable {P : Program} {w : World} {K : PySem.W.Frag} {mg : Str → Option Value} {base : Heap}
theorem fn_okM {x qual : Str} {st : Stmt} {f : Addr} {fd : FuncData} {N ps : List Str} {k n : Nat} {sp : SpM} {wb : DS} (F : Fun K x qual st f fd) (S : FnScope N ps (defScope st)) (hn : ps.length = n)
    (body : ∀ (S : Sts) (N0 : Addr → Bool) (H0 : Hp) (cdv : Value) (A : Around) (outer : List Env) (s : Shared) (H : Hp) (E : XK), Room k (A.deeper (envOfC qual (defScope st) s.heap.objs.size f cdv)) →
      DSs (cxOf (L2.CX P w) P w K mg base N qual (defScope st) f cdv A outer s H E) ⟨K, S, N0, H0⟩ (fun cls d _ H => E cls d H) (defBody st) wb)
    (sound : ∀ ds μ R Z, ds.length = n → sp ds μ R Z → wb (gam0 N.length ds) μ ⟨fun _ μ' => R .non μ', R, fun _ _ => False, fun _ _ => False, fun cl _ μ' => Z cl μ'⟩) :
    FnOk P w K mg base (L2.CX P w) (k + 1) f fd ps (toSpM K n sp) := by
  refine F.okX S (fun vs H Q E h => by rw [hn]; exact h.1) fun cdv A outer s H vs Q E hr h => ?_
  obtain ⟨hl, ⟨K', S', N0, H0⟩, α, μ, ds, R, Z, eK, r0, is, hsp, hq, he⟩ := h
  have eK : K' = K := eK
  subst eK
  refine ⟨_, body S' N0 H0 cdv A outer s H E hr, ?_⟩
  have r := start_rlM (N := N) r0 is
  refine ⟨α, _, μ, _, r, sound ds μ R Z (by rw [is.length]; exact hl) hsp, ?_, ?_, ?_, ?_, ?_⟩
  · intro α' Γ' μ' σ' H' w' r' m'
    exact hq .non .non α' μ' H' w' r'.zero m' .non
  · intro d v α' Γ' μ' σ' H' w' r' m' i'
    exact hq d v α' μ' H' w' r'.zero m' i'
  · intro α' Γ' μ' σ' H' w'
    exact w'.elim
  · intro α' Γ' μ' σ' H' w'
    exact w'.elim
  · intro cl α' Γ' μ' σ' H' w' r' m'
    exact he cl α' μ' H' w' r'.zero m'
end
section
variable {X : Cx} {C : Cfg} {W : WX} {e : Expr} {es : List Expr} {was : DA} {pos p : Pos}
def wCallM (n : Nat) (f : SpM) (was : DA) : DX := fun Γ μ R Z => was Γ μ (fun ds μ1 => ds.length = n ∧ f ds μ1 R fun cl μ2 => Z cl Γ μ2) Z
theorem de_callM {f : Addr} {fd : FuncData} {k n : Nat} {ps : List Str} {sp : SpM} {x : Str} (hK : X.K = C.K) (tk : Takes X W) (F : FnOk X.prog X.w X.K X.mg X.base (L2.CX X.prog X.w) k f fd ps (toSpM X.K n sp)) (hr : Room k X.A) (hg : Gl X x) (hm : X.mg x = some (.ref f))
    (hk : PySem.W.keepIn X.K (.ref f) = true) (hb : Binds X.K fd ps []) (ha : DAs X C W (e :: es) was)
    (hdb : (x == ("__debug__" : Str)) = false := by decide) (he : starEach (e :: es) X.env = (false, eval e X.env) :: starEach es X.env := by rfl) (hpl : (backTo pos (starEach es X.env)).any (·.1) = false := by rfl) :
    DE X C W (.Call (.Name x p) (e :: es) [] pos) (wCallM n sp was) :=
  (pe_callS F hr hg hm hk hb (fun σ => passAt tk σ) ha hdb he hpl).imp fun σ H Q ⟨α, Γ, μ, R, Z, r, w, k, z⟩ => by
    refine ⟨α, Γ, μ, _, Z, r, w, fun ds vs α1 μ1 H1 w1 r1 m1 i1 => ?_, z⟩
    obtain ⟨hds, w1⟩ := w1
    refine ⟨by rw [← i1.length]; exact hds, C, α1, μ1, ds, R, fun cl μ2 => Z cl Γ μ2, hK.symm, r1.zero, by rw [hK]; exact i1, w1, fun d v α' μ' H' hd r0 mv is => ?_, fun cl α' μ' H' hz r0 mv => ?_⟩
    · rw [hK] at is
      exact k d v α' μ' H' hd (r1.names r0 mv) (m1.trans mv) is
    · exact z cl α' Γ μ' σ H' hz (r1.names r0 mv) (m1.trans mv)
end
end TC

set_option Elab.async false
set_option linter.all false
set_option maxRecDepth 100000
set_option maxHeartbeats 2000000
/-! The truth of a thing as a test. -/
namespace TC
open PySem PySem.Spec PyProof.Rows L2
def truD (d : D) (μ : Mem) : Option Bool := match d with
  | .non => some false
  | .bl b => some b
  | .int i => some (i != 0)
  | .tup ds => some (!ds.isEmpty)
  | .lst ds => some (!ds.isEmpty)
  | .mt k => match μ[k]? with
    | some (.lst ds) => some (!ds.isEmpty)
    | _ => none
  | _ => none
section
variable {X : Cx} {C : Cfg} {W : WX} {a : Expr} {wa : DX}
def wTru (wa : DX) : DT := fun Γ μ R Z => wa Γ μ (fun d μ1 => match truD d μ1 with
  | some b => R b μ1
  | none => False) Z
theorem dt_tru (hK : X.K = C.K) (ha : DE X C W a wa) (he : ∀ whole, isTrue a X.env whole = (do let v ← whole; standAt a.pos; holding [v] (truthy v)) := by intro _; rfl) : DTs X C W a (wTru wa) :=
  PT.imp (pt_truth ha he) fun σ H Q ⟨α, Γ, μ, R, Z, r, w, k, z⟩ => by
    rw [hK]
    refine ⟨α, Γ, μ, _, Z, r, w, fun d v α1 μ1 H1 w1 r1 m1 i1 => ?_, z⟩
    split at w1
    · rename_i b hb
      refine ⟨b, ?_, k b α1 μ1 H1 w1 r1 m1⟩
      unfold truD at hb
      cases i1 with
      | non => cases hb; exact rfl
      | bl c => cases hb; exact rfl
      | int i => cases hb; exact rfl
      | tup h q => cases hb; exact .inr (.inl ⟨_, gk_ex.t h.sq, by rw [iss_empty q]⟩)
      | lst h q => cases hb; exact .inl ⟨_, SqL.of (gk_ex _ _ h), by rw [iss_empty q]⟩
      | mt hk =>
        rename_i n
        have hb : (match μ1[n]? with | some (.lst ds) => some (!ds.isEmpty) | _ => none) = some b := hb
        split at hb
        · rename_i ds hq
          cases hb
          obtain ⟨xs, h1, h2⟩ := r1.cells n _ _ hk hq
          exact .inl ⟨xs, SqL.of h1, by rw [iss_empty h2]⟩
        · cases hb
      | _ => cases hb
    · exact w1.elim
end
end TC

set_option Elab.async false
set_option linter.all false
set_option maxRecDepth 100000
set_option maxHeartbeats 2000000
/-! for t, v in d.items(), d a resting dict keyed by rows of numbers. -/
namespace TC
open PySem PySem.Spec PyProof.Rows L2
/-- the pairs, each a new tuple -/
def Itii (d : Addr) (o : Obj) (m : List Ent) (vs : List V) : It :=
  ⟨fun i H => H d = some (.frz o (.ext (DictI d m))) ∧ i < m.length, fun i H x H' => ∃ T oT e v, m[i]? = some e ∧ vs[i]? = some v ∧ x = .ref T ∧ H T = none ∧ oT.dict = none ∧ H' = upd H T (.frz oT (.tup [.ref e.2.1, v])), fun i H => H d = some (.frz o (.ext (DictI d m))) ∧ m.length ≤ i⟩
section
variable {X : Cx} {tg e : Expr} {t td : TE}
theorem frzI_raw {pins : List (Addr × Obj)} {σ : L2.St} {H : Hp} {s : Shared} {d : Addr} {o : Obj} {m : List Ent} (I : Inv X pins σ H s) (h : H d = some (.frz o (.ext (DictI d m)))) :
    (d == sysModules) = false ∧ s.heap.get? d = some o ∧ ∃ (es : Array DictEntry) (ep : Nat), o.data = .dict es ep ∧ s.heap.DictRaw d es ep ∧ es.size = m.length ∧ ∀ (i : Nat) (x : Ent), m[i]? = some x → es[i]? = some (entI x) := by
  obtain ⟨hs, hgd, hx, es, ep, hdt, hsz, ent⟩ := frzI I h
  exact ⟨hs, hgd, es, ep, hdt, ⟨o, hgd, hx, hdt⟩, hsz, ent⟩
theorem turn_itemsI {P : Program} {w : World} {K : PySem.W.Frag} {d : Addr} {o : Obj} {es : Array DictEntry} {ep : Nat} {m : List Ent} {vs : List V} {elts : List Expr} {kk : Nat} {tpos : Pos} (it : Addr) (hod : o.data = .dict es ep) (hv : Vals vs (m.map (·.2.2))) :
    Turn P w K (.Tuple elts kk tpos) (Itii d o m vs) [it] it (fun i h => ∃ ok ov, IsItemIter h it d i m.length ep ok ov) where
  mem := by simp
  obj := fun i h st b hb => by
    have e : b = it := by simpa using hb
    subst e
    obtain ⟨ok, ov, e⟩ := st
    exact ⟨_, e, fun v z => nomatch z⟩
  keep := fun i h h' st k => let ⟨ok, ov, e⟩ := st; ⟨ok, ov, k it (by simp) _ e⟩
  item := by
    intro X hP hw hK hc i pins s σ H E I hf st hg
    subst hP hw hK
    obtain ⟨hd, hi⟩ := hg
    obtain ⟨hs, hgd, es', ep', hdt, raw, hsz, ent⟩ := frzI_raw I hd
    obtain ⟨rfl, rfl⟩ := dict_ep hod hdt
    obtain ⟨x, hx'⟩ : ∃ p, m[i]? = some p := ⟨m[i], List.getElem?_eq_getElem hi⟩
    have en := ent i x hx'
    have hi' : i < es'.size := by rw [hsz]; exact hi
    have en' : es'[i] = entI x := by
      have := Array.getElem?_eq_getElem hi'
      rw [this] at en
      exact Option.some.inj en
    obtain ⟨ok, ov, he⟩ := st
    rw [← hsz] at he
    have hlt : it < s.heap.objs.size := Heap.lt_size he
    obtain ⟨v, hv1, hv2⟩ : ∃ v, vs[i]? = some v ∧ RelV v x.2.2 := by
      have hl : vs.length = m.length := by rw [Paired.length hv, List.length_map]
      have hi2 : i < vs.length := by omega
      obtain ⟨b, hb, r⟩ := paired_get hv (List.getElem?_eq_getElem hi2)
      rw [List.getElem?_map, hx'] at hb
      cases hb
      exact ⟨vs[i], List.getElem?_eq_getElem hi2, r⟩
    refine wpAny_pyNext_items_item_raw he raw hi' fun h' ho hT hz hk => ?_
    rw [en'] at ho hT
    refine ⟨_, rfl, wpAny_letOwnedTupleGo_items (s := { s with heap := h' }) ho fun h'' he' sb => ?_⟩
    have hT2 : h''.get? s.heap.objs.size = some { cls := .type "tuple", data := .seq #[.ref x.2.1, x.2.2] } := (sb.2 _ (Nat.ne_of_gt hlt)).trans hT
    have new : ObjOk X.prog X.w (upd H s.heap.objs.size (.frz { cls := .type "tuple", data := .seq #[.ref x.2.1, x.2.2] } (.tup [.ref x.2.1, v]))) h'' s.heap.objs.size (.frz { cls := .type "tuple", data := .seq #[.ref x.2.1, x.2.2] } (.tup [.ref x.2.1, v])) :=
      ⟨hT2, by show 2 ≤ sizeLine; decide, [.ref x.2.1, x.2.2], .cons rfl (.cons hv2 .nil), ⟨_, hT2, rfl, _, rfl⟩⟩
    have I1 : Inv X pins σ (upd H s.heap.objs.size (.frz { cls := .type "tuple", data := .seq #[.ref x.2.1, x.2.2] } (.tup [.ref x.2.1, v]))) { s with heap := h'' } :=
      I.turnedNew (t' := s.toks) (ch := [it]) (fun b ob hb e => (sb.2 b (by simpa using hb)).trans (hk b ob (by simpa using hb) e)) hf (Nat.le_refl _) new
    refine ⟨.ref s.heap.objs.size, _, I1, rfl, ⟨_, _, x, v, hx', hv1, rfl, I.hok.fresh (Nat.le_refl _), rfl, rfl⟩, ⟨(entI x).key, (entI x).val, ?_⟩, fun b hb => ?_⟩
    · rw [← hsz]; exact he'
    · have e : b = it := by simpa using hb
      rw [e, upd_ne (Nat.ne_of_lt hlt)]
      exact (hf it (by simp)).1
  done := by
    intro X hP hw hK hc i pins s σ H E I hf st hg
    subst hP hw hK
    obtain ⟨hd, hi⟩ := hg
    obtain ⟨f0, f1, f2, f3, f4, f5⟩ := hf it (by simp)
    obtain ⟨hs, hgd, es', ep', hdt, raw, hsz, ent⟩ := frzI_raw I hd
    obtain ⟨rfl, rfl⟩ := dict_ep hod hdt
    obtain ⟨ok, ov, he⟩ := st
    rw [← hsz] at he
    exact wpAny_pyNext_items_end_raw (I.ok.hd hc) he raw (by rw [hsz]; exact hi) fun h' eb => ⟨rfl, I.turned (t' := s.toks) (fun b ob hb e => eb b ob hb e) f0 f1 f3 f4 f5⟩
  self := fun A i s Q E st h => let ⟨_, _, e⟩ := st; PySem.W.kcp_self e h
def iItemsI (td : TE) : TI := fun σ H R => td σ H fun x H1 => ∃ d o m vs, x = .ref d ∧ H1 d = some (.frz o (.ext (DictI d m))) ∧ Vals vs (m.map (·.2.2)) ∧ R (Itii d o m vs) H1
theorem pi_itemsI {elts : List Expr} {kk : Nat} {tpos apos cpos : Pos} (he : PE X e td) (hbase : attributeBase e "items" X.env (eval e X.env) = eval e X.env := by rfl) (hline : (apos.endLine == cpos.line) = true := by rfl) :
    PI X (.Tuple elts kk tpos) (.Call (.Attribute e "items" apos) [] [] cpos) (iItemsI td) := by
  refine ⟨fun pins s σ H R I h => ?_⟩
  refine wpAny_Call_method (T := "dict") (id := "dict.items") hbase rfl hline F.plainAttrs_dict F.slot_dict_items F.type_dict_items (thn (he.run pins s σ H _ I h) fun u s1 ⟨x, H1, I1, rx, d, o, m, vs, ex, hd, hv, q⟩ => ?_)
  subst ex
  obtain rfl : u = Value.ref d := rx
  obtain ⟨hs, hgd, es, ep, hdt, raw, hsz, ent⟩ := frzI_raw I1 hd
  obtain ⟨t1, t2, _⟩ : s1.TypeIs (.ref d) "dict" ∧ (∀ b, Value.ref d = .ref b → ∃ ob, s1.heap.get? b = some ob ∧ ob.dict = none) ∧ True := by
    obtain ⟨ob, h1, h2, h3⟩ := raw
    refine ⟨⟨ob, h1, h2.1⟩, fun b q => ?_, True.intro⟩
    cases q
    exact ⟨ob, h1, h2.2.1⟩
  refine ⟨t1, t2, ?_⟩
  have I2 : Inv X pins σ H1 { s1 with heap := s1.heap.push { cls := .type "dict_items", data := .fields #[.ref d] } } := I1.kept (t' := s1.toks) fun b ob q => Heap.get?_push_of_some _ q
  have fin : wpAny (model X.prog X.w) X.A (pyIter (.ref s1.heap.objs.size)) (PIE X pins σ (.Tuple elts kk tpos) R) X.xe { s1 with heap := s1.heap.push { cls := .type "dict_items", data := .fields #[.ref d] } } := by
    refine wpAny_pyIter_items_raw (d := d) ⟨_, Heap.get?_push_size _ rfl, rfl, rfl⟩ (raw.at fun ob q => Heap.get?_push_of_some _ q) (pi_one (tk := s1.toks) I2 _ (turn_itemsI _ hdt hv) ⟨.none, .none, ?_⟩ q)
    rw [← hsz]
    exact Heap.get?_push_size _ rfl
  show wpAny _ _ (callWith cpos (.builtin "dict.items") [.ref d] [] []) _ X.xe s1
  exact method_meetsIn F.slot_dict_items F.entry_dict_items rfl (PySem.evalArgs_none ⟨rfl, t1, F.args_dict_items_1 _, _, meets_dict_items_raw d hs, ⟨es, ep, raw⟩, fin⟩)
end
end TC

set_option Elab.async false
set_option linter.all false
set_option maxRecDepth 100000
set_option maxHeartbeats 2000000
/-! for a, b in pairs, each pair a new tuple. -/
namespace TC
open PySem PySem.Spec PyProof.Rows L2
/-- the pair p -/
def IsPr (u : HO) (p : V × V) : Prop := u = .tup [p.1, p.2] ∨ ∃ oT, u = .frz oT (.tup [p.1, p.2])
theorem IsPr.rd {H : Hp} {T : Addr} {u : HO} {p : V × V} (h : IsPr u p) : Rd (upd H T u) T (.tup [p.1, p.2]) := by
  rcases h with rfl | ⟨o, rfl⟩
  · exact .inl upd_same
  · exact .inr ⟨o, upd_same⟩
/-- what an iterator of pairs gives, while G stands -/
structure WkP (J : It) (xs : List (V × V)) (G : Hp → Prop) : Prop where
  go : ∀ i H, G H → i < xs.length → J.go i H
  yl : ∀ i H x H', G H → i < xs.length → J.yld i H x H' → ∃ T u p, xs[i]? = some p ∧ x = .ref T ∧ H T = none ∧ IsPr u p ∧ H' = upd H T u
  stop : ∀ i H, G H → i = xs.length → J.stop i H
theorem for_wkP {J : It} {xs : List (V × V)} {G : Hp → Prop} (k : WkP J xs G) {g : TG} {tb : TS} {D : Ends} {σ : L2.St} {H : Hp} (Pv : Nat → L2.St → Hp → Prop) (h0 : Pv 0 σ H) (hl : ∀ i σ H, Pv i σ H → G H)
    (hs : ∀ i p σ H T u, xs[i]? = some p → Pv i σ H → H T = none → IsPr u p → g (.ref T) σ (upd H T u) fun σ2 H2 => tb { D with nx := Pv (i + 1), ct := Pv (i + 1), bk := D.nx } σ2 H2) (hd : ∀ σ H, Pv xs.length σ H → D.nx σ H) :
    ∃ W : Nat → Nat → L2.St → Hp → Prop, (∃ m, W 0 m σ H) ∧ ∀ i m σ H, W i m σ H →
      (J.stop i H ∧ D.nx σ H) ∨ (J.go i H ∧ ∃ N : L2.St → Hp → Prop, (∀ σ' H', N σ' H' → ∃ m', m' < m ∧ W (i + 1) m' σ' H') ∧ ∀ x H', J.yld i H x H' → g x σ H' fun σ2 H2 => tb { D with nx := N, ct := N, bk := D.nx } σ2 H2) := by
  refine ⟨fun i m σ H => m = xs.length - i ∧ i ≤ xs.length ∧ Pv i σ H, ⟨xs.length, by simp, Nat.zero_le _, h0⟩, ?_⟩
  rintro i m σ H ⟨rfl, hi, p⟩
  have q := hl i σ H p
  by_cases hlt : i < xs.length
  · refine .inr ⟨k.go i H q hlt, Pv (i + 1), fun σ' H' p' => ⟨xs.length - (i + 1), by omega, rfl, hlt, p'⟩, fun x H' y => ?_⟩
    obtain ⟨T, oT, pr, e1, e2, e3, e4, e5⟩ := k.yl i H x H' q hlt y
    subst e2 e5
    exact hs i pr σ H T oT e1 p e3 e4
  · have e : i = xs.length := by omega
    subst e
    exact .inl ⟨k.stop _ H q rfl, hd σ H p⟩
theorem wk_items {d : Addr} {o : Obj} {m : List Ent} {vs : List V} (hl : vs.length = m.length) : WkP (Itii d o m vs) ((m.map fun x => V.ref x.2.1).zip vs) (fun H => H d = some (.frz o (.ext (DictI d m)))) where
  go := fun i H h l => ⟨h, by rw [List.length_zip, List.length_map] at l; omega⟩
  yl := fun i H x H' h l y => by
    obtain ⟨T, oT, e, v, h1, h2, h3, h4, h5, h6⟩ := y
    refine ⟨T, _, (.ref e.2.1, v), ?_, h3, h4, .inr ⟨oT, rfl⟩, h6⟩
    rw [List.getElem?_zip_eq_some]
    exact ⟨by rw [List.getElem?_map, h1]; rfl, h2⟩
  stop := fun i H h e => ⟨h, by rw [List.length_zip, List.length_map] at e; omega⟩
abbrev DPr := Gam → Mem → (List (D × D) → Mem → Prop) → ZD → Prop
section
variable {X : Cx} {C : Cfg} {W : WX} {tg e : Expr} {we : DX} {st : Stmt} {pos : Pos}
def canIP (C : Cfg) (W : WX) (w : DPr) : TI := fun σ H R => ∃ α Γ μ Rd Z, Rl C α σ H Γ μ ∧ w Γ μ Rd Z ∧
  (∀ ps us ws J G α' μ' H', Rd ps μ' → Rl C α' σ H' Γ μ' → Mv C α μ H α' μ' H' → Iss C.K C.S α' (gk C α' μ' H') (ps.map (·.1)) us → Iss C.K C.S α' (gk C α' μ' H') (ps.map (·.2)) ws → WkP J (us.zip ws) G → (∀ α2 μ2 H2, Mv C α' μ' H' α2 μ2 H2 → G H2) → R J H') ∧ Kz C W α H μ Z
def DIP (X : Cx) (C : Cfg) (W : WX) (tg e : Expr) (w : DPr) : Prop := PI X tg e (canIP C W w)
/-- the target a, b -/
abbrev gPair (K : PySem.W.Frag) (i j : Nat) : TG := gTup K 2 (gCons (gName i) (gCons (gName j) gNil))
def wForPL (i j : Nat) (body : DS) : List (D × D) → DS
  | [], Γ, μ, P => P.nx Γ μ
  | x :: xs, Γ, μ, P => body ((Γ.set i (some x.1)).set j (some x.2)) μ ⟨fun Γ' μ' => wForPL i j body xs Γ' μ' P, P.rt, P.nx, fun Γ' μ' => wForPL i j body xs Γ' μ' P, P.rz⟩
def wForP (i j : Nat) (wi : DPr) (body : DS) : DS := fun Γ μ P => wi Γ μ (fun ds μ1 => wForPL i j body ds Γ μ1 P) P.rz
theorem ds_forP {iter : Expr} {i j : Nat} {wi : DPr} {body : List Stmt} {wb : DS} (hK : X.K = C.K) (hp : PassesOwn (model X.prog X.w) X.A X.env X.xe) (hc : X.calm = true) (hi : DIP X C W tg iter wi) (hg : PG X tg (gPair X.K i j)) (hb : DSs X C W body wb)
    (hs : ∀ x, foldedSetIterable iter X.env x = pure x := by intro _; rfl) : DSt X C W (.For tg iter body [] pos) (wForP i j wi wb) := (ps_for hp hc hi hg hb hs).imp fun D σ H ⟨α, Γ, μ, P, r, w, n, t, b, c, z⟩ => by
  refine ⟨α, Γ, μ, _, _, r, w, fun ps us ws J G α1 μ1 H1 w1 r1 m1 iu iw k1 g1 => ?_, z⟩
  refine for_wkP k1 (fun q σ' H' => ∃ α' Γ' μ', Rl C α' σ' H' Γ' μ' ∧ Mv C α1 μ1 H1 α' μ' H' ∧ wForPL i j wb (ps.drop q) Γ' μ' P) ⟨α1, Γ, μ1, r1, Mv.refl, w1⟩ (fun q σ' H' ⟨α', Γ', μ', _, m', _⟩ => g1 α' μ' H' m') ?_ ?_
  · rintro q pr σ' H' T u hx ⟨α', Γ', μ', r', m', w'⟩ hT hu0
    obtain ⟨hu, hw⟩ := List.getElem?_zip_eq_some.mp hx
    obtain ⟨d1, hd1, id1⟩ := iu.get' hu
    obtain ⟨d2, hd2, id2⟩ := iw.get' hw
    obtain ⟨dp, hdp, e1, e2⟩ : ∃ dp, ps[q]? = some dp ∧ dp.1 = d1 ∧ dp.2 = d2 := by
      rw [List.getElem?_map] at hd1 hd2
      cases e : ps[q]? with
      | none => rw [e] at hd1; cases hd1
      | some dp =>
        rw [e] at hd1 hd2
        exact ⟨dp, rfl, Option.some.inj hd1, Option.some.inj hd2⟩
    subst e1 e2
    have e : ps.drop q = dp :: ps.drop (q + 1) := by
      obtain ⟨hl, he⟩ := List.getElem?_eq_some_iff.mp hdp
      rw [List.drop_eq_getElem_cons hl, he]
    rw [e] at w'
    have w' : wb ((Γ'.set i (some dp.1)).set j (some dp.2)) μ' ⟨fun Γ' μ' => wForPL i j wb (ps.drop (q + 1)) Γ' μ' P, P.rt, P.nx, fun Γ' μ' => wForPL i j wb (ps.drop (q + 1)) Γ' μ' P, P.rz⟩ := w'
    have ex : Ex H' (upd H' T u) := ex_new hT
    have r2 := r'.ext ex
    have m2 : Mv C α1 μ1 H1 α' μ' (upd H' T u) := m'.trans (Mv.ext ex)
    refine ⟨T, [pr.1, pr.2], rfl, .inl hu0.rd, rfl, pr.1, [pr.2], rfl, pr.2, [], rfl, rfl, ?_⟩
    refine ⟨α', _, μ', _, (r2.setv (m2.is id1)).setv (m2.is id2), w', fun α3 Γ3 μ3 σ3 H3 w3 r3 m3 => ⟨α3, Γ3, μ3, r3, m2.trans m3, w3⟩, fun d v α3 Γ3 μ3 σ3 H3 w3 r3 m3 i3 => t d v α3 Γ3 μ3 σ3 H3 w3 r3 ((m1.trans m2).trans m3) i3,
      fun α3 Γ3 μ3 σ3 H3 w3 r3 m3 => n α3 Γ3 μ3 σ3 H3 w3 r3 ((m1.trans m2).trans m3), fun α3 Γ3 μ3 σ3 H3 w3 r3 m3 => ⟨α3, Γ3, μ3, r3, m2.trans m3, w3⟩, z.mv (m1.trans m2)⟩
  · rintro σ' H' ⟨α', Γ', μ', r', m', w'⟩
    have l1 := iu.length
    have l2 := iw.length
    rw [List.length_map] at l1 l2
    have e : (us.zip ws).length = ps.length := by rw [List.length_zip, ← l1, ← l2, Nat.min_self]
    rw [e, List.drop_length] at w'
    exact n α' Γ' μ' σ' H' w' r' (m1.trans m')
/-- .. in d.items(), d at rest -/
def wItems (w : DX) : DPr := fun Γ μ R Z => w Γ μ (fun d μ1 => match d with
  | .dt ks ds => ks.length = ds.length ∧ R ((keysD ks).zip ds) μ1
  | _ => False) Z
theorem di_items {elts : List Expr} {kk : Nat} {tpos apos cpos : Pos} (h : DE X C W e we) (hbase : attributeBase e "items" X.env (eval e X.env) = eval e X.env := by rfl) (hline : (apos.endLine == cpos.line) = true := by rfl) :
    DIP X C W (.Tuple elts kk tpos) (.Call (.Attribute e "items" apos) [] [] cpos) (wItems we) := PI.imp (pi_itemsI h hbase hline) fun σ H Q ⟨α, Γ, μ, R, Z, r, w, k, z⟩ => by
  refine ⟨α, Γ, μ, _, Z, r, w, fun d v α1 μ1 H1 w1 r1 m1 i1 => ?_, z⟩
  cases i1 with
  | @dt a o m vs ks ds h l q =>
    have e := l.1
    subst e
    obtain ⟨hl, w1⟩ := w1
    have lk : (keysD (m.map (·.1))).length = ds.length := by unfold keysD; rw [List.length_map]; exact hl
    refine ⟨a, o, m, vs, rfl, gk_ex _ _ h, l.2.2, k _ _ _ _ _ α1 μ1 H1 w1 r1 m1 ?_ ?_ (wk_items (by rw [Paired.length l.2.2, List.length_map])) fun α2 μ2 H2 m2 => gk_ex _ _ (m2.ex _ _ h)⟩
    · rw [List.map_fst_zip (Nat.le_of_eq lk)]
      exact keysD_is l.2.1
    · rw [List.map_snd_zip (Nat.le_of_eq lk.symm)]
      exact q
  | _ => exact w1.elim
/-! ### enumerate -/
def enumV (n : Nat) : List V := (List.range n).map fun (i : Nat) => V.int (i : Int)
theorem wk_enum {K : PySem.W.Frag} {a : Addr} {xs : List V} : WkP (Ite K a) ((enumV xs.length).zip xs) (fun H => SqL K H a xs) where
  go := fun i H h l => by
    unfold enumV at l
    rw [List.length_zip, List.length_map, List.length_range, Nat.min_self] at l
    exact ⟨xs, xs[i], h, List.getElem?_eq_getElem l⟩
  yl := fun i H x H' h l y => by
    unfold enumV at l
    rw [List.length_zip, List.length_map, List.length_range, Nat.min_self] at l
    obtain ⟨T, v, h1, h2, h3, h4⟩ := y
    refine ⟨T, _, (.int (i : Nat), v), ?_, h1, h2, .inl rfl, h3⟩
    rw [List.getElem?_zip_eq_some]
    refine ⟨?_, h4 xs h⟩
    unfold enumV
    rw [List.getElem?_map, List.getElem?_range l]
    rfl
  stop := fun i H h e => by
    unfold enumV at e
    rw [List.length_zip, List.length_map, List.length_range, Nat.min_self] at e
    exact ⟨xs, h, by omega⟩
def enumD (ds : List D) : List (D × D) := ((List.range ds.length).map fun (i : Nat) => D.int (i : Int)).zip ds
theorem enum_is {K : PySem.W.Frag} {S : Sts} {α : List Addr} {G : Hp} (n : Nat) : Iss K S α G ((List.range n).map fun (i : Nat) => D.int (i : Int)) (enumV n) := by
  have e1 : ((List.range n).map fun (i : Nat) => D.int (i : Int)) = ((List.range n).map fun (i : Nat) => (i : Int)).map D.int := by rw [List.map_map]; rfl
  have e2 : enumV n = ((List.range n).map fun (i : Nat) => (i : Int)).map V.int := by unfold enumV; rw [List.map_map]; rfl
  rw [e1, e2]
  exact Iss.of_ints _
def wEnum (was : DA) : DPr := fun Γ μ R Z => was Γ μ (fun ds μ1 => match ds with
  | [.lst xs] => R (enumD xs) μ1
  | _ => False) Z
theorem di_enum {a : Expr} {was : DA} {elts : List Expr} {kk : Nat} {tpos p pos : Pos} (hK : X.K = C.K) (hg : Gl X "enumerate") (hm : X.mg "enumerate" = none) (ha : DAs X C W [a] was) (hs : starEach [a] X.env = [(false, eval a X.env)] := by rfl) :
    DIP X C W (.Tuple elts kk tpos) (.Call (.Name "enumerate" p) [a] [] pos) (wEnum was) := PI.imp (pi_enum hg hm ha hs) fun σ H Q ⟨α, Γ, μ, R, Z, r, w, k, z⟩ => by
  rw [hK]
  refine ⟨α, Γ, μ, _, Z, r, w, fun ds vs α1 μ1 H1 w1 r1 m1 i1 => ?_, z⟩
  split at w1
  · rename_i xs
    obtain ⟨v, rfl, h⟩ := iss1 i1
    cases h with
    | @lst a xs' _ h q =>
      have l := q.length
      refine ⟨a, xs', rfl, SqL.of (gk_ex _ _ h), k _ _ _ _ _ α1 μ1 H1 w1 r1 m1 ?_ ?_ wk_enum fun α2 μ2 H2 m2 => SqL.of (gk_ex _ _ (m2.ex _ _ h))⟩
      · unfold enumD
        rw [List.map_fst_zip (by simp), ← l]
        exact enum_is _
      · unfold enumD
        rw [List.map_snd_zip (by simp)]
        exact q
  · exact w1.elim
end
end TC

set_option Elab.async false
set_option linter.all false
set_option maxRecDepth 100000
set_option maxHeartbeats 2000000
/-! x in a list or tuple of any data. -/
namespace TC
open PySem PySem.Spec PyProof.Rows L2
def rInP (K : PySem.W.Frag) (neg : Bool) : R2 := fun x y H Q => ∃ d ds, Dp K H x d ∧ (Dp K H y (.list ds) ∨ Dp K H y (.tuple ds)) ∧ SeqAt.shaped d = true ∧ SeqAt.shaped (.list ds) = true ∧ Q (.bl (if neg then !ds.any fun z => PyData.eqv z d else ds.any fun z => PyData.eqv z d)) H
section
variable {X : Cx}
theorem op_inP (hu : X.A.units + 65 < cLine) : OpR X (compareOp .In) (rInP X.K false) := by
  intro pins s σ H x y v u Q I rx ry h
  obtain ⟨d, ds, hd, he, sd, se, q⟩ := h
  obtain ⟨as, r1⟩ := Dp.reads I d x v hd rx
  rcases he with he | he
  · obtain ⟨bs, r2⟩ := Dp.reads I (.list ds) y u he ry
    exact SeqAt.in_list_reads r2 r1 (SeqAt.canLay_of_shaped se) (SeqAt.canLay_of_shaped sd) (room_in_shaped sd hu) ⟨.bl _, H, I, rfl, q⟩
  · obtain ⟨bs, r2⟩ := Dp.reads I (.tuple ds) y u he ry
    exact SeqAt.in_tuple_reads r2 r1 (SeqAt.canLay_of_shaped se) (SeqAt.canLay_of_shaped sd) (room_in_shaped sd hu) ⟨.bl _, H, I, rfl, q⟩
theorem op_notInP (hu : X.A.units + 65 < cLine) : OpR X (compareOp .NotIn) (rInP X.K true) := by
  intro pins s σ H x y v u Q I rx ry h
  obtain ⟨d, ds, hd, he, sd, se, q⟩ := h
  obtain ⟨as, r1⟩ := Dp.reads I d x v hd rx
  rcases he with he | he
  · obtain ⟨bs, r2⟩ := Dp.reads I (.list ds) y u he ry
    exact SeqAt.notIn_list_reads r2 r1 (SeqAt.canLay_of_shaped se) (SeqAt.canLay_of_shaped sd) (room_in_shaped sd hu) ⟨.bl _, H, I, rfl, q⟩
  · obtain ⟨bs, r2⟩ := Dp.reads I (.tuple ds) y u he ry
    exact SeqAt.notIn_tuple_reads r2 r1 (SeqAt.canLay_of_shaped se) (SeqAt.canLay_of_shaped sd) (room_in_shaped sd hu) ⟨.bl _, H, I, rfl, q⟩
end
section
variable {X : Cx} {C : Cfg} {W : WX} {a b : Expr} {wa wb : DX} {pos : Pos}
def dInP (neg : Bool) : D → D → Mem → RD → Prop := fun x y μ R => (eqOk (res x μ) = true ∧ eqOk (res y μ) = true) ∧ match res y μ with
  | .tup ds => R (.bl (if neg then !(ds.any fun z => deq z (res x μ)) else ds.any fun z => deq z (res x μ))) μ
  | .lst ds => R (.bl (if neg then !(ds.any fun z => deq z (res x μ)) else ds.any fun z => deq z (res x μ))) μ
  | _ => False
theorem any_py (ds : List D) (p : PyData) : ((pys ds).any fun z => PyData.eqv z p) = ds.any fun z => PyData.eqv z.py p := by
  induction ds with
  | nil => rfl
  | cons d ds ih =>
    show ((d.py :: pys ds).any fun z => PyData.eqv z p) = _
    rw [List.any_cons, List.any_cons, ih]
theorem shaped_tl {ds : List PyData} (h : SeqAt.shaped (.tuple ds) = true) : SeqAt.shaped (.list ds) = true := by
  unfold SeqAt.shaped at h ⊢
  simpa [PyData.canLay0, PyData.depth] using h
theorem sn_inP {neg : Bool} : SndOp C (rInP C.K neg) (dInP neg) := by
  intro x y v u α σ H Γ μ R Q r ix iy ⟨⟨o1, o2⟩, w⟩ k
  obtain ⟨p1, s1⟩ := eqOk_and o1
  obtain ⟨p2, s2⟩ := eqOk_and o2
  have dx := Is.dp _ _ (r.res ix) p1
  have dy := Is.dp _ _ (r.res iy) p2
  split at w
  · rename_i ds e
    rw [e] at dy s2
    refine ⟨_, pys ds, dx, .inr dy, s1, shaped_tl s2, ?_⟩
    rw [any_py]
    exact k _ _ _ _ _ w r Mv.refl (.bl _)
  · rename_i ds e
    rw [e] at dy s2
    refine ⟨_, pys ds, dx, .inl dy, s1, s2, ?_⟩
    rw [any_py]
    exact k _ _ _ _ _ w r Mv.refl (.bl _)
  · exact w.elim
theorem dt_inP (hK : X.K = C.K) (hu : X.A.units + 65 < cLine) (ha : DE X C W a wa) (hb : DE X C W b wb) (hm : behindInMarks .In b = false) : DTs X C W (.Compare a [.In] [b] pos) (wTest (wBin (dInP false) wa wb)) :=
  dt_cmp (by have h := op_inP (X := X) hu; rw [hK] at h; exact h) sn_inP ha hb hm
theorem dt_notinP (hK : X.K = C.K) (hu : X.A.units + 65 < cLine) (ha : DE X C W a wa) (hb : DE X C W b wb) (hm : behindInMarks .NotIn b = false) : DTs X C W (.Compare a [.NotIn] [b] pos) (wTest (wBin (dInP true) wa wb)) :=
  dt_cmp (by have h := op_notInP (X := X) hu; rw [hK] at h; exact h) sn_inP ha hb hm
end
end TC

set_option Elab.async false
set_option linter.all false
set_option maxRecDepth 100000
set_option maxHeartbeats 2000000
/-! isinstance(x, (list, tuple)). -/
namespace TC
open PySem PySem.Spec PyProof.Rows L2
def rIsiF (K : PySem.W.Frag) : List V → Hp → VK → Prop := fun xs H Q => ∃ (x : V) (tp : Addr) (cs : List V) (t : Value) (us : List Value) (b : Bool), xs = [x, .ref tp] ∧ (∃ o, H tp = some (.frz o (.tup cs))) ∧ Paired ClsV cs us ∧ TyX K H x t ∧ PySem.W.kitAny K t us = some b ∧ Q (.bl b) H
theorem call_isiF {X : Cx} : CallR X (.builtin "isinstance") (rIsiF X.K) := by
  intro pins s σ H xs us Q I r h
  obtain ⟨x, tp, cs, t, ws, b, rfl, ⟨of, hT⟩, k, ty, e, q⟩ := h
  obtain ⟨u1, u2, rfl, r1, r2⟩ := vals2 r
  cases (show u2 = Value.ref tp from r2)
  obtain ⟨P, Z, p, hx⟩ := kit_of I r1 ty
  obtain ⟨_, _, its, rv, o, h1, h2, n, h3⟩ := (show ObjOk X.prog X.w H s.heap tp (.frz of (.tup cs)) from I.hok tp _ hT)
  have e3 := ClsV.all k rv
  subst e3
  obtain ⟨oc, od, dt, sl⟩ := o
  simp only at h2 h3
  subst h2 h3
  exact PySem.W.kia_tup Z I.kIn p h1 e hx fun tk => ⟨.bl b, H, I.tok tk, rfl, q⟩
def tysD : List D → Option (List String)
  | [] => some []
  | .ty c :: ds => (tysD ds).map (c :: ·)
  | _ => none
def dIsiT : List D → Mem → RD → Prop := fun ds μ R => match ds with
  | [x, .tup cs] => match tyN (res x μ), tysD cs with
    | some n, some ts => (ts.all fun c => ["int", "bool", "tuple", "list", "str", "dict"].contains c) = true ∧ (∀ xs : List V, xs.length = cs.length → True) ∧ R (.bl (ts.any (isi n))) μ
    | _, _ => False
  | _ => False
theorem tys_is {K : PySem.W.Frag} {S : Sts} {α : List Addr} {G : Hp} : ∀ {cs : List D} {vs : List V} {ts : List String}, Iss K S α G cs vs → tysD cs = some ts → Paired ClsV vs (ts.map Value.type)
  | [], _, ts, h, e => by
    cases h
    cases e
    exact .nil
  | c :: cs, _, ts, h, e => by
    cases c with
    | ty c =>
      have e : (tysD cs).map (c :: ·) = some ts := e
      cases q : tysD cs with
      | none => rw [q] at e; cases e
      | some ts' =>
        rw [q] at e
        cases e
        cases h with
        | cons h r =>
          cases h
          exact .cons (.ty c) (tys_is r q)
    | _ => cases e
theorem kitAny_tys {K : PySem.W.Frag} {n : String} (hn : n ∈ tyAll) : ∀ ts : List String, (ts.all fun c => ["int", "bool", "tuple", "list", "str", "dict"].contains c) = true → PySem.W.kitAny K (.type n) (ts.map Value.type) = some (ts.any (isi n))
  | [], _ => rfl
  | c :: ts, h => by
    rw [List.all_cons, Bool.and_eq_true] at h
    have e : PySem.W.kitOne K (.type n) (.type c) = some (isi n c) := kit_ty (isi_ok n hn c (by simpa using h.1))
    have ih := kitAny_tys (K := K) hn ts h.2
    rw [List.map_cons, List.any_cons]
    show (match PySem.W.kitOne K (.type n) (.type c) with | some true => some true | some false => PySem.W.kitAny K (.type n) (ts.map Value.type) | none => none) = _
    rw [e, ih]
    cases isi n c <;> rfl
def rIsiFK (K : PySem.W.Frag) : List V → Hp → VK → Prop := fun xs H Q => rIsiF K xs H Q ∨ rIsiK K xs H Q
theorem call_isiFK {X : Cx} : CallR X (.builtin "isinstance") (rIsiFK X.K) := by
  intro pins s σ H xs us Q I r h
  rcases h with h | h
  · exact call_isiF pins s σ H xs us Q I r h
  · exact call_isiK pins s σ H xs us Q I r h
theorem sn_isiT {C : Cfg} : SndCall C (rIsiFK C.K) dIsiT := by
  intro ds vs α σ H Γ μ R Q r i w k
  unfold dIsiT at w
  split at w
  · rename_i x cs
    obtain ⟨v, u, rfl, h1, h2⟩ := iss2 i
    split at w
    · rename_i n ts hn ht
      obtain ⟨hc, _, w⟩ := w
      obtain ⟨ty, hm⟩ := (r.res h1).tyx hn
      cases h2 with
      | @tup a xs _ h q =>
        rcases h with ⟨o, h, _⟩ | ⟨o, its, nn, g1, g2, g3, g4, g5, g6⟩
        · exact .inl ⟨v, a, xs, _, _, _, rfl, ⟨o, gk_ex _ _ h⟩, tys_is q ht, ty, kitAny_tys hm ts hc, k _ _ _ _ _ w r Mv.refl (.bl _)⟩
        · have e3 := ClsV.all (tys_is q ht) g6
          obtain ⟨oc, od, dt, sl⟩ := o
          simp only at g2 g4
          subst g2 g4
          have e4 : its = (ts.map Value.type).toArray := by rw [← e3]
          subst e4
          exact .inr ⟨v, a, od, ts.map Value.type, nn, sl, _, _, rfl, g1, ty, kitAny_tys hm ts hc, k _ _ _ _ _ w r Mv.refl (.bl _)⟩
    · exact w.elim
  · exact w.elim
end TC

set_option Elab.async false
set_option linter.all false
set_option maxRecDepth 100000
set_option maxHeartbeats 2000000
/-! {t: v}, one pair, the key a tuple of numbers. -/
namespace TC
open PySem PySem.Spec PyProof.Rows L2
section
variable {X : Cx} {ke ve : Expr} {tk tv : TE} {pos : Pos}
def tDispI (K : PySem.W.Frag) (tk tv : TE) : TE := fun σ H Q => ∀ p, H p = none → tk σ (upd H p (.ext (DictI p []))) fun x H1 => tv σ H1 fun y H2 => H2 p = some (.ext (DictI p [])) ∧ ∃ b k, x = .ref b ∧ TupD K H2 b (k.map V.int) ∧ ∀ u, RelV y u → Q (.ref p) (upd H2 p (.ext (DictI p [(k, b, u)])))
theorem pe_dispI (hu : X.A.units < cLine) (hk : PE X ke tk) (hv : PE X ve tv) : PE X (.Dict [some ke] [ve] pos) (tDispI X.K tk tv) := by
  refine ⟨fun pins s σ H Q I q => ?_⟩
  have hn := I.hok.fresh (Nat.le_refl s.heap.objs.size)
  have I1 := I.laid (a := s.heap.objs.size) (o := .ext (DictI s.heap.objs.size [])) (h' := s.heap.push { cls := .type "dict", data := .dict #[] }) (t' := s.toks) (fun _ _ q => Heap.get?_push_of_some _ q) (Nat.le_refl _) (dictI_ok (dictI_empty s.heap I.big))
  have sh := zip_pairTrees [some ke] [ve] X.env pos rfl rfl
  rw [arm_eval_Dict]
  rw [sh, dictDisplay_pairs (pairTrees [some ke] [ve] X.env pos) (fun e => by cases e) (show 1 < 17 by decide)]
  refine wpAny_bind (wpAny_standAt (wpAny_bind ?_))
  refine wpAny_subDictH (knd := tupI X.prog X.w) hu (show 1 ≤ 15 by decide) ?_
  refine pairTrees_cons_walk (thn (hk.run pins _ σ _ _ I1 (q _ hn)) fun kv s1 ⟨x, H1, J1, rx, q1⟩ => thn (hv.run pins s1 σ H1 _ J1 q1) fun vv s2 ⟨y, H2, J2, ry, e, b, k, ex, T, q2⟩ => pairTrees_nil_walk ?_)
  subst ex
  cases rx
  obtain ⟨z, hd, dd⟩ := dict_of J2 (a := s.heap.objs.size) (m := []) ⟨.inl e, fun x hx => by cases hx⟩
  refine ⟨[(k, b, vv)], ⟨rfl, rfl, key_int J2 T, True.intro⟩, dd, fun h' tk2 dd' hs => ?_⟩
  obtain ⟨o2, es, ep, hq, h2, h3, h4, _, h5⟩ := dd'
  refine wpAny_pure ?_
  refine ⟨.ref s.heap.objs.size, _, d_write J2 (by rw [e]; exact True.intro) hs ⟨o2, hq⟩ (dictI_ok (m := [(k, b, vv)]) ⟨⟨by show 1 ≤ sizeLine; decide, hd⟩, o2, es, ep, hq, h2, h3, h4, h5⟩), rfl, q2 vv ry⟩
end
section
variable {X : Cx} {C : Cfg} {W : WX} {ke ve : Expr} {wk wv : DX} {pos : Pos}
def wDisp1 (wk wv : DX) : DX := fun Γ μ R Z => wk Γ (μ ++ [.dt [] []]) (fun x μ1 => wv Γ μ1 (fun d μ2 => match keyD x with
  | some k => μ2[μ.length]? = some (.dt [] []) ∧ R (.mt μ.length) (μ2.set μ.length (.dt [k] [d]))
  | none => False) Z) Z
theorem de_disp1 (hK : X.K = C.K) (hu : X.A.units < cLine) (hk : DE X C W ke wk) (hv : DE X C W ve wv) : DE X C W (.Dict [some ke] [ve] pos) (wDisp1 wk wv) := PE.imp (pe_dispI hu hk hv) fun σ H Q ⟨α, Γ, μ, R, Z, r, w, k, z⟩ p hp => by
  rw [hK]
  unfold wDisp1 at w
  obtain ⟨r0, m0⟩ := r.grow (o := .ext (DictI p [])) (c := .dt [] []) hp ⟨[], [], upd_same, ⟨rfl, (fun x hx => by cases hx), Paired.nil⟩, Iss.nil⟩ (fun q => nomatch q)
  have hat : (α ++ [p])[μ.length]? = some p := by rw [← r.len]; simp
  refine ⟨α ++ [p], Γ, μ ++ [.dt [] []], _, Z, r0, w, fun x v α1 μ1 H1 w1 r1 m1 i1 => ?_, z.mv m0⟩
  refine ⟨α1, Γ, μ1, _, Z, r1, w1, fun d u α2 μ2 H2 w2 r2 m2 i2 => ?_, z.mv (m0.trans m1)⟩
  split at w2
  · rename_i kk hkk
    obtain ⟨hq, w2⟩ := w2
    have hp2 := m2.pre _ _ (m1.pre _ _ hat)
    obtain ⟨m, vs, g1, g2, g3⟩ := r2.cells _ _ _ hp2 hq
    have em : m = [] := List.map_eq_nil_iff.mp g2.1
    subst em
    obtain ⟨b, rfl, T⟩ := key_is (m2.is i1) hkk
    refine ⟨g1, b, kk, rfl, gk_ex.tupd T, fun u2 ru => ?_⟩
    obtain ⟨r3, m3⟩ := r2.write (o := .ext (DictI p [(kk, b, u2)])) (c := .dt [kk] [d]) hp2 (by rw [hq]; exact fun q => nomatch q) ⟨[(kk, b, u2)], [u], upd_same, ⟨rfl, fun x hx => by rw [List.mem_singleton.mp hx]; exact T, .cons ru .nil⟩, .cons i2 .nil⟩ (fun q => nomatch q)
    exact k _ _ _ _ _ w2 r3 (m0.trans (m1.trans (m2.trans m3))) (.mt (m3.pre _ _ hp2))
  · exact w2.elim
end
end TC

set_option Elab.async false
set_option linter.all false
set_option maxRecDepth 100000
set_option maxHeartbeats 2000000
/-! list(d), d a dict keyed by tuples of numbers. -/
namespace TC
open PySem PySem.Spec PyProof.Rows L2
def rLstDI : List V → Hp → VK → Prop := fun xs H Q => ∃ d m, xs = [V.ref d] ∧ DRd H d m ∧ ∀ p, H p = none → Q (.ref p) (upd H p (.lst (m.map fun x => V.ref x.2.1)))
theorem refsV : ∀ m : List Ent, Vals (m.map fun x => V.ref x.2.1) (m.map fun x => Value.ref x.2.1)
  | [] => .nil
  | _ :: m => .cons rfl (refsV m)
theorem call_lstDI {X : Cx} (hc : X.calm = true) : CallR X (.type "list") rLstDI := by
  intro pins s σ H xs us Q I r h
  obtain ⟨d, m, rfl, hd, q⟩ := h
  obtain ⟨u, rfl, rx⟩ := r.one
  cases rx
  obtain ⟨⟨z, hs⟩, o, es, ep, ho, hx, hdt, he, hn⟩ := dict_at I hd
  have l1 : es.size = m.length := by
    have := congrArg List.length he
    simpa using this
  refine PySem.W.kdl_call (kdl_raw hs hx hdt) (I.ok.hd hc) ho (by omega) fun h' tk acc' c' kp e it => ?_
  have ea : acc'.toList = m.map fun x => Value.ref x.2.1 := by
    apply List.ext_getElem?
    intro j
    rw [List.getElem?_map]
    have ll : acc'.toList.length = m.length := (Array.length_toList).trans (it.1.trans l1)
    cases hj : acc'.toList[j]? with
    | none =>
      have lj := List.getElem?_eq_none_iff.mp hj
      rw [List.getElem?_eq_none (show m.length ≤ j by omega)]
      rfl
    | some v =>
      obtain ⟨en, hen, hv⟩ := it.2 j v ((Array.getElem?_toList ..).symm.trans hj)
      have qe : es.toList[j]? = some en := (Array.getElem?_toList ..).trans hen
      rw [he, List.getElem?_map] at qe
      cases hb : m[j]? with
      | none => rw [hb] at qe; cases qe
      | some b =>
        rw [hb] at qe
        have e2 : entI b = en := Option.some.inj qe
        rw [hv, ← e2]
        rfl
  have rv : Vals (m.map fun x => V.ref x.2.1) acc'.toList := by
    rw [ea]
    exact refsV m
  have hz : (m.map fun x => V.ref x.2.1).length ≤ sizeLine := by
    rw [List.length_map]
    exact z
  refine ⟨.ref s.heap.objs.size, _, I.laid (t' := tk) (o := .lst (m.map fun x => V.ref x.2.1)) kp (Nat.le_refl _) ?_, rfl, q _ (I.hok.fresh (Nat.le_refl _))⟩
  exact ⟨hz, acc'.toList, c', rv, by rw [Array.toArray_toList]; exact e⟩
def dLstDI : List D → Mem → RD → Prop := fun ds μ R => match ds with
  | [x] => match dtOf x μ with
    | some (ks, _) => R (.lst (keysD ks)) μ
    | none => False
  | _ => False
theorem sn_lstDI {C : Cfg} : SndCall C rLstDI dLstDI := by
  intro ds vs α σ H Γ μ R Q r i w k
  unfold dLstDI at w
  split at w
  · obtain ⟨v, rfl, h⟩ := iss1 i
    split at w
    · rename_i ks ds' hd
      obtain ⟨a, m, vs', rfl, h1, h2, h3⟩ := r.dict h hd
      refine ⟨a, m, rfl, h1, fun p hp => ?_⟩
      have e := h2.1
      subst e
      obtain ⟨r2, m2, i2⟩ := r.lst hp (keysD_is h2.2.1)
      exact k _ _ _ _ _ w r2 m2 i2
    · exact w.elim
  · exact w.elim
end TC

set_option Elab.async false
set_option linter.all false
set_option maxRecDepth 100000
set_option maxHeartbeats 2000000
/-! sorted(list of tuples of numbers), any number of them. -/
namespace TC
open PySem PySem.Spec PyProof.Rows L2
def TupV (h : Heap) (v : Value) (ns : List Int) : Prop := ∃ a o us n, v = .ref a ∧ h.get? a = some o ∧ o.cls = .type "tuple" ∧ o.data = .seq (List.toArray us) n ∧ Vals (ns.map V.int) us
theorem TupV.keeps {h h' : Heap} {v : Value} {ns : List Int} (p : TupV h v ns) (k : ∀ b o, h.get? b = some o → o.cls = .type "tuple" → h'.get? b = some o) : TupV h' v ns := by
  obtain ⟨a, o, us, n, e, ho, hc, r⟩ := p
  exact ⟨a, o, us, n, e, k _ _ ho hc, hc, r⟩
section
variable {prog : Program} {w : World} {A : Around} {s : Shared} {b fin : Bool} {Q : Bool → Shared → Prop}
theorem lex_go : ∀ (xs ys : List Int) (us ws : List Value) (i : Nat), Vals (xs.map V.int) us → Vals (ys.map V.int) ws → fin = decide (xs.length < ys.length) → Q (HT.lexLt xs ys) s → PySem.W.KatLex prog w A b fin Q (us.zip ws) i s
  | [], ys, us, ws, i, h1, h2, hf, q => by
    rw [List.map_nil] at h1
    cases h1
    refine PySem.W.kat_nil ?_
    rw [hf]
    cases ys with
    | nil => exact q
    | cons y ys => exact q
  | x :: xs, [], us, ws, i, h1, h2, hf, q => by
    rw [List.map_nil] at h2
    cases h2
    rw [List.zip_nil_right]
    refine PySem.W.kat_nil ?_
    rw [hf]
    exact q
  | x :: xs, y :: ys, us, ws, i, h1, h2, hf, q => by
    rw [List.map_cons] at h1 h2
    cases h1 with
    | cons r1 h1 =>
      cases h2 with
      | cons r2 h2 =>
        obtain ⟨t, rfl⟩ := r1
        obtain ⟨t', rfl⟩ := r2
        rw [HT.lexLt_cons] at q
        rw [List.zip_cons_cons]
        refine PySem.W.kat_cons (SeqAt.EqAt.int_int x t y t' prog w _ _ ?_)
        refine PySem.W.kat_go (fun e1 => ?_) (fun e1 => ?_)
        · have ex : x = y := by simpa using e1
          rw [if_pos ex] at q
          exact PySem.W.kat_yes (lex_go xs ys _ _ (i + 1) h1 h2 (by rw [hf]; simp) q)
        · have ex : ¬ x = y := by simpa using e1
          rw [if_neg ex] at q
          exact PySem.W.kat_no (TS.oneLt_ints _ q)
theorem tup_cmp {vs : List Value} {k : Value → List Int} (hp : ∀ v ∈ vs, TupV s.heap v (k v)) : SrtO.Cmp prog w A s (tuples' true) (fun p => p.1 ∈ vs) (SrtO.lt2 fun v u => HT.lexLt (k v) (k u)) := by
  intro p q hm hm'
  obtain ⟨a, o, us, n, e, ho, hc, hd, rv⟩ := hp _ hm
  obtain ⟨a', o', us', n', e', ho', hc', hd', rv'⟩ := hp _ hm'
  show wpAny (model prog w) A (keyLt' (tuples' true) p.1 q.1) (fun r s' => s' = s ∧ r = HT.lexLt (k p.1) (k q.1)) (fun _ _ => False) s
  generalize k p.1 = xs at rv ⊢
  generalize k q.1 = ys at rv' ⊢
  rw [e, e']
  refine PySem.W.kat_lt ho hd ho' hd' ?_
  have l1 : us.length = xs.length := by rw [← Paired.length rv, List.length_map]
  have l2 : us'.length = ys.length := by rw [← Paired.length rv', List.length_map]
  exact lex_go xs ys us us' 0 rv rv' (by simp [l1, l2]) ⟨rfl, rfl⟩
theorem tup_firsts {h : Heap} {k : Value → List Int} : ∀ {vs : List Value}, (∀ v ∈ vs, TupV h v (k v) ∧ k v ≠ []) → ∃ fs : List Value, PySem.W.KatTups h vs fs ∧ fs.length = vs.length ∧ ∀ f ∈ fs, ∃ x t, f = Value.int x t
  | [], _ => ⟨[], PySem.W.KatTups.nil, rfl, fun _ hm => by simp at hm⟩
  | v :: vs, hp => by
    obtain ⟨fs, h1, h2, h3⟩ := tup_firsts (vs := vs) fun v' hm => hp v' (List.mem_cons_of_mem _ hm)
    obtain ⟨⟨a, o, us, n, e, ho, hc, hd, rv⟩, hne⟩ := hp v (List.mem_cons_self ..)
    subst e
    generalize k (.ref a) = xs at rv hne
    cases xs with
    | nil => exact absurd rfl hne
    | cons x xs =>
      rw [List.map_cons] at rv
      cases rv with
      | cons r rv =>
        obtain ⟨t, rfl⟩ := r
        refine ⟨.int x t :: fs, PySem.W.KatTups.cons ho hc hd rfl h1, by rw [List.length_cons, List.length_cons, h2], fun f hm => ?_⟩
        rcases List.mem_cons.mp hm with rfl | hm
        · exact ⟨x, t, rfl⟩
        · exact h3 f hm
theorem tups_sortable {a : Addr} {vs : List Value} {k : Value → List Int} (h0 : 0 < vs.length) (hp : ∀ v ∈ vs, TupV s.heap v (k v) ∧ k v ≠ []) (ha : ∀ o, s.heap.get? a = some o → o.cls ≠ .type "tuple") : SrtO.SortableO prog w A s a vs fun v u => HT.lexLt (k v) (k u) := by
  intro h' keep
  have hp' : ∀ v ∈ vs, TupV h' v (k v) ∧ k v ≠ [] := fun v hm => ⟨(hp v hm).1.keeps fun b o e c => keep b o (fun z => by subst z; exact ha o e c) e, (hp v hm).2⟩
  obtain ⟨fs, h1, h2, h3⟩ := tup_firsts hp'
  refine ⟨tuples' true, fun Q E hq => ?_, tup_cmp (s := { s with heap := h' }) fun v hm => (hp' v hm).1⟩
  have hl : 0 < fs.length := by omega
  refine PySem.W.kat_kind (T := .type "int") h1 hl (fun f hm => ?_) (by rfl) ?_
  · obtain ⟨x, t, rfl⟩ := h3 f hm
    exact PySem.W.Looks.now
  · have e : (Value.type "int" != Value.type "tuple") = true := by first | decide +kernel | rfl
    rw [e]
    exact hq
theorem lex_asym : ∀ x y : List Int, HT.lexLt x y = true → HT.lexLt y x = false
  | [], [], _ => rfl
  | [], _ :: _, _ => rfl
  | _ :: _, [], h => by cases h
  | x :: xs, y :: ys, h => by
    rw [HT.lexLt_cons] at h ⊢
    by_cases e : x = y
    · rw [if_pos e] at h
      rw [if_pos e.symm]
      exact lex_asym xs ys h
    · rw [if_neg e] at h
      rw [if_neg (Ne.symm e)]
      have := of_decide_eq_true h
      exact decide_eq_false (by omega)
theorem lex_tr : ∀ x y z : List Int, HT.lexLt y x = false → HT.lexLt z y = false → HT.lexLt z x = false
  | [], _, [], _, _ => rfl
  | [], _, _ :: _, _, _ => rfl
  | x :: xs, [], _, h, _ => by cases h
  | x :: xs, y :: ys, [], _, h => by cases h
  | x :: xs, y :: ys, z :: zs, h1, h2 => by
    rw [HT.lexLt_cons] at h1 h2 ⊢
    by_cases e1 : y = x
    · rw [if_pos e1] at h1
      by_cases e2 : z = y
      · rw [if_pos e2] at h2
        rw [if_pos (e2.trans e1)]
        exact lex_tr xs ys zs h1 h2
      · rw [if_neg e2] at h2
        rw [if_neg (fun e => e2 (e.trans e1.symm))]
        have := of_decide_eq_false h2
        exact decide_eq_false (by omega)
    · rw [if_neg e1] at h1
      have a1 := of_decide_eq_false h1
      by_cases e2 : z = y
      · rw [if_neg (fun e => e1 (e2.symm.trans e))]
        exact decide_eq_false (by omega)
      · rw [if_neg e2] at h2
        have a2 := of_decide_eq_false h2
        by_cases e3 : z = x
        · omega
        · rw [if_neg e3]
          exact decide_eq_false (by omega)
theorem swo_tup (k : Value → List Int) : SrtO.Swo fun v u => HT.lexLt (k v) (k u) := ⟨fun x y h => lex_asym _ _ h, fun x y z h1 h2 => lex_tr _ _ _ h1 h2⟩
end
end TC

set_option Elab.async false
set_option linter.all false
set_option maxRecDepth 100000
set_option maxHeartbeats 2000000
/-! sorted(list of tuples of numbers) as a rule. -/
namespace TC
open PySem PySem.Spec PyProof.Rows L2
theorem vals_ints_inj : ∀ {xs ys : List Int} {us : List Value}, Vals (xs.map V.int) us → Vals (ys.map V.int) us → xs = ys
  | [], [], _, _, _ => rfl
  | [], _ :: _, _, h, h' => by
    rw [List.map_nil] at h
    cases h
    rw [List.map_cons] at h'
    cases h'
  | _ :: _, [], _, h, h' => by
    rw [List.map_nil] at h'
    cases h'
    rw [List.map_cons] at h
    cases h
  | x :: xs, y :: ys, _, h, h' => by
    rw [List.map_cons] at h h'
    cases h with
    | cons r h =>
      cases h' with
      | cons r' h' =>
        obtain ⟨t, rfl⟩ := r
        obtain ⟨t', e⟩ := r'
        cases e
        rw [vals_ints_inj h h']
theorem TupV.inj {h : Heap} {v : Value} {ns ms : List Int} (p : TupV h v ns) (q : TupV h v ms) : ns = ms := by
  obtain ⟨a, o, us, n, e, ho, hc, hd, rv⟩ := p
  obtain ⟨a', o', us', n', e', ho', hc', hd', rv'⟩ := q
  rw [e] at e'
  cases e'
  rw [ho] at ho'
  cases ho'
  rw [hd] at hd'
  cases hd'
  exact vals_ints_inj rv rv'
def rSortU (K : PySem.W.Frag) : List V → Hp → VK → Prop := fun xs H Q => ∃ (a : Addr) (L : List (Addr × List Int)), xs = [V.ref a] ∧ SqL K H a (L.map fun p => V.ref p.1) ∧ (∀ p ∈ L, SqT K H p.1 (p.2.map V.int) ∧ p.2 ≠ []) ∧
  ∀ (L' : List (Addr × List Int)) (p : Addr), L'.Perm L → L'.Pairwise (fun q r => HT.lexLt r.2 q.2 = false) → H p = none → Q (.ref p) (upd H p (.lst (L'.map fun p => V.ref p.1)))
def adV : Value → Addr
  | .ref a => a
  | _ => 0
section
variable {X : Cx}
theorem tupV_of {pins : List (Addr × Obj)} {σ : L2.St} {H : Hp} {s : Shared} {a : Addr} {ns : List Int} (I : Inv X pins σ H s) (h : SqT X.K H a (ns.map V.int)) : TupV s.heap (.ref a) ns := by
  obtain ⟨its, r, ⟨o, h1, h2, n, h3⟩, _⟩ := I.tuple h
  exact ⟨a, o, its, n, rfl, h1, h2, h3, r⟩
theorem refs_eq : ∀ {L : List (Addr × List Int)} {us : List Value}, Vals (L.map fun p => V.ref p.1) us → us = L.map fun p => Value.ref p.1
  | [], _, r => by
    rw [List.map_nil] at r
    cases r
    rfl
  | p :: L, _, r => by
    rw [List.map_cons] at r
    cases r with
    | cons h t =>
      cases h
      rw [List.map_cons, ← refs_eq t]
theorem refs_vals : ∀ L : List (Addr × List Int), Vals (L.map fun p => V.ref p.1) (L.map fun p => Value.ref p.1)
  | [] => .nil
  | _ :: L => .cons rfl (refs_vals L)
theorem cr_sortedU : CallR X (.builtin "sorted") (rSortU X.K) := by
  intro pins s σ H xs us Q I r h
  obtain ⟨a, L, rfl, hs, hx, q⟩ := h
  obtain ⟨u, rfl, rx⟩ := r.one
  cases rx
  obtain ⟨its, rv, hl, hz⟩ := I.list hs
  have ei := refs_eq rv
  let k : Value → List Int := fun v => match L.find? (fun p => decide (p.1 = adV v)) with
    | some p => p.2
    | none => []
  have hk : ∀ p ∈ L, k (.ref p.1) = p.2 := fun p hp => by
    show (match L.find? (fun q => decide (q.1 = p.1)) with | some p => p.2 | none => []) = p.2
    cases e : L.find? (fun q => decide (q.1 = p.1)) with
    | none =>
      have := List.find?_eq_none.mp e p hp
      simp at this
    | some p' =>
      have h1 : p'.1 = p.1 := of_decide_eq_true (List.find?_some (p := fun q : Addr × List Int => decide (q.1 = p.1)) e)
      have h2 := List.mem_of_find?_eq_some e
      have t1 := tupV_of I (hx p' h2).1
      have t2 := tupV_of I (hx p hp).1
      rw [h1] at t1
      exact t1.inj t2
  have hv : ∀ v ∈ its, ∃ p ∈ L, v = .ref p.1 := fun v hm => by
    rw [ei] at hm
    obtain ⟨p, hp, rfl⟩ := List.mem_map.mp hm
    exact ⟨p, hp, rfl⟩
  have hlen : its.length = L.length := by rw [ei, List.length_map]
  have hz' : its.length ≤ sizeLine := by
    rw [hlen]
    simpa using hz
  refine SrtO.sorted_ord (swo_tup k) hl.isList hz' (fun h2 h₁ b hb kk => ?_) fun out hs2 hb2 => ?_
  · refine tups_sortable (s := { s with heap := h₁ }) (by omega) (fun v hm => ?_) fun o e => ?_
    · obtain ⟨p, hp, rfl⟩ := hv v hm
      rw [hk p hp]
      exact ⟨(tupV_of I (hx p hp).1).keeps fun c o e _ => (kk c o e).2, (hx p hp).2⟩
    · have e' : some o = some (seqObj "list" its.toArray 0) := e.symm.trans hb
      cases e'
      intro c
      exact absurd (Value.type.inj c) (by decide)
  · have ho : ∀ v ∈ out, ∃ p ∈ L, v = .ref p.1 := fun v hm => hv v (hb2.perm.mem_iff.mp hm)
    let f : Value → Addr × List Int := fun v => (adV v, k v)
    have hf : ∀ p ∈ L, f (.ref p.1) = p := fun p hp => by
      show (p.1, k (.ref p.1)) = p
      rw [hk p hp]
    have pe : (out.map f).Perm L := by
      have p1 := hb2.perm.map f
      rw [ei, List.map_map] at p1
      have e2 : L.map (f ∘ fun p => Value.ref p.1) = L := by
        have : L.map (f ∘ fun p => Value.ref p.1) = L.map id := List.map_congr_left fun p hp => hf p hp
        rw [this, List.map_id]
      rw [e2] at p1
      exact p1
    have eo : (out.map f).map (fun p => Value.ref p.1) = out := by
      rw [List.map_map]
      have : out.map ((fun p : Addr × List Int => Value.ref p.1) ∘ f) = out.map id := List.map_congr_left fun v hm => by
        obtain ⟨p, hp, rfl⟩ := ho v hm
        rfl
      rw [this, List.map_id]
    have pw : (out.map f).Pairwise (fun q r => HT.lexLt r.2 q.2 = false) := by
      rw [List.pairwise_map]
      exact hs2.imp fun h => h
    have hn := I.hok.fresh (Nat.le_succ s.heap.objs.size)
    have ol : ((out.map f).map fun p => V.ref p.1).length ≤ sizeLine := by
      rw [List.length_map, List.length_map, hb2.perm.length_eq]
      exact hz'
    have rv2 : Vals ((out.map f).map fun p => V.ref p.1) out := by
      have := refs_vals (out.map f)
      rw [eo] at this
      exact this
    obtain ⟨n2, hat⟩ : ∃ n, (sortedAll s.heap its out.toArray).get? (s.heap.objs.size + 1) = some (seqObj "list" out.toArray n) := sortedAll_at s.heap its out.toArray
    exact ⟨.ref (s.heap.objs.size + 1), _, I.laid (t' := s.toks) (o := .lst ((out.map f).map fun p => V.ref p.1)) (fun b o e => sortedAll_old e) (Nat.le_succ _) ⟨ol, out, n2, rv2, hat⟩, rfl, q _ _ pe pw hn⟩
end
end TC

set_option Elab.async false
set_option linter.all false
set_option maxRecDepth 100000
set_option maxHeartbeats 2000000
/-! sorted(d), d a dict keyed by tuples of numbers, any number of them. -/
namespace TC
open PySem PySem.Spec PyProof.Rows L2
def kOf (L : List (Addr × List Int)) (v : Value) : List Int := match L.find? (fun p => decide (p.1 = adV v)) with
  | some p => p.2
  | none => []
theorem kOf_mem {h : Heap} {L : List (Addr × List Int)} (hx : ∀ p ∈ L, TupV h (.ref p.1) p.2) : ∀ p ∈ L, kOf L (.ref p.1) = p.2 := fun p hp => by
  show (match L.find? (fun q => decide (q.1 = p.1)) with | some p => p.2 | none => []) = p.2
  cases e : L.find? (fun q => decide (q.1 = p.1)) with
  | none =>
    have := List.find?_eq_none.mp e p hp
    simp at this
  | some p' =>
    have h1 : p'.1 = p.1 := of_decide_eq_true (List.find?_some (p := fun q : Addr × List Int => decide (q.1 = p.1)) e)
    have t1 := hx p' (List.mem_of_find?_eq_some e)
    rw [h1] at t1
    exact t1.inj (hx p hp)
theorem sort_out {L : List (Addr × List Int)} {its out : List Value} (hk : ∀ p ∈ L, kOf L (.ref p.1) = p.2) (ei : its = L.map fun p => Value.ref p.1) (hs2 : SrtO.Srtd (fun v u => HT.lexLt (kOf L v) (kOf L u)) out) (hb2 : SrtO.Stb (fun v u => HT.lexLt (kOf L v) (kOf L u)) out its) :
    ∃ L' : List (Addr × List Int), L'.Perm L ∧ L'.Pairwise (fun q r => HT.lexLt r.2 q.2 = false) ∧ out = L'.map fun p => Value.ref p.1 := by
  have ho : ∀ v ∈ out, ∃ p ∈ L, v = .ref p.1 := fun v hm => by
    have := hb2.perm.mem_iff.mp hm
    rw [ei] at this
    obtain ⟨p, hp, rfl⟩ := List.mem_map.mp this
    exact ⟨p, hp, rfl⟩
  refine ⟨out.map fun v => (adV v, kOf L v), ?_, ?_, ?_⟩
  · have p1 := hb2.perm.map fun v => (adV v, kOf L v)
    rw [ei, List.map_map] at p1
    have e2 : L.map ((fun v => (adV v, kOf L v)) ∘ fun p => Value.ref p.1) = L := by
      have : L.map ((fun v => (adV v, kOf L v)) ∘ fun p => Value.ref p.1) = L.map id := List.map_congr_left fun p hp => by
        show (p.1, kOf L (.ref p.1)) = p
        rw [hk p hp]
      rw [this, List.map_id]
    rw [e2] at p1
    exact p1
  · rw [List.pairwise_map]
    exact hs2.imp fun h => h
  · rw [List.map_map]
    have : out.map ((fun p : Addr × List Int => Value.ref p.1) ∘ fun v => (adV v, kOf L v)) = out.map id := List.map_congr_left fun v hm => by
      obtain ⟨p, hp, rfl⟩ := ho v hm
      rfl
    rw [this, List.map_id]
def entL (m : List Ent) : List (Addr × List Int) := m.map fun x => (x.2.1, x.1)
def rSortDI (K : PySem.W.Frag) : List V → Hp → VK → Prop := fun xs H Q => ∃ (a : Addr) (m : List Ent), xs = [V.ref a] ∧ KD K H H a m ∧ (∀ x ∈ m, x.1 ≠ []) ∧
  ∀ (L' : List (Addr × List Int)) (p : Addr), L'.Perm (entL m) → L'.Pairwise (fun q r => HT.lexLt r.2 q.2 = false) → H p = none → Q (.ref p) (upd H p (.lst (L'.map fun p => V.ref p.1)))
theorem cr_sortedDI {X : Cx} (hcalm : X.calm = true) : CallR X (.builtin "sorted") (rSortDI X.K) := by
  intro pins s σ H xs us Q I r h
  obtain ⟨a, m, rfl, hd, hne, q⟩ := h
  obtain ⟨u, rfl, rx⟩ := r.one
  cases rx
  obtain ⟨⟨z, lo⟩, o, es, ep, ho, hx, hdt, he, hn⟩ := dict_at I hd.1
  have l1 : es.size = m.length := by
    have := congrArg List.length he
    simpa using this
  refine Calls.call_function_entry PyProof.Rows.kind_sorted PyProof.Rows.plain_sorted PyProof.Rows.entry_sorted (PyProof.Rows.args_sorted1 _) ?_
  unfold Builtin.«sorted»
  refine wpAny_bind (m := checkCount "sorted" 1 1 _) (wpAny_pure ?_)
  refine wpAny_bind (PySem.W.kdu_collect (A := X.A.in1) (kdl_raw lo hx hdt) (I.ok.hd hcalm) ho (by omega) fun h' tk acc hk it => ?_)
  have ei : acc.toList = (entL m).map fun p => Value.ref p.1 := by
    unfold entL
    rw [List.map_map]
    apply List.ext_getElem?
    intro j
    rw [List.getElem?_map]
    have ll : acc.toList.length = m.length := (Array.length_toList).trans (it.1.trans l1)
    cases hj : acc.toList[j]? with
    | none =>
      have lj := List.getElem?_eq_none_iff.mp hj
      rw [List.getElem?_eq_none (show m.length ≤ j by omega)]
      rfl
    | some v =>
      obtain ⟨en, hen, hv⟩ := it.2 j v ((Array.getElem?_toList ..).symm.trans hj)
      have qe : es.toList[j]? = some en := (Array.getElem?_toList ..).trans hen
      rw [he, List.getElem?_map] at qe
      cases hb : m[j]? with
      | none => rw [hb] at qe; cases qe
      | some b =>
        rw [hb] at qe
        have e2 : entI b = en := Option.some.inj qe
        rw [hv, ← e2]
        rfl
  have I1 : Inv X pins σ H { s with heap := h', toks := tk } := I.kept hk
  have hT : ∀ p ∈ entL m, TupV h' (.ref p.1) p.2 ∧ p.2 ≠ [] := fun p hp => by
    obtain ⟨x, hx', rfl⟩ := List.mem_map.mp hp
    exact ⟨tupV_of I1 (hd.2 x hx').sq, hne x hx'⟩
  have hkk := kOf_mem fun p hp => (hT p hp).1
  have ll : acc.toList.length = m.length := (Array.length_toList).trans (it.1.trans l1)
  have hz' : acc.toList.length ≤ sizeLine := by omega
  refine wpAny_bind (wpAny_newList ?_ hz')
  have hoL : (h'.push (seqObj "list" acc.toList.toArray 0)).get? h'.objs.size = some (seqObj "list" acc.toList.toArray 0) := Heap.get?_push_size _ rfl
  show wpAny _ _ _ _ _ { s with heap := h'.push (seqObj "list" acc.toList.toArray 0), toks := tk }
  refine wpAny_bind (wpAny_holding (wpAny_call_entry PyProof.Rows.slot_list_sort ⟨_, hoL, rfl⟩ PyProof.Rows.entry_list_sort
    (SrtO.list_sort_ord (s := { s with heap := h'.push (seqObj "list" acc.toList.toArray 0), toks := tk }) (swo_tup (kOf (entL m))) hoL hz' (fun h2 => ?_) fun out hs2 hb2 => ⟨_, rfl, ?_⟩)
    (PyProof.Rows.args_list_sort _)))
  · refine tups_sortable (s := { s with heap := h'.push (seqObj "list" acc.toList.toArray 0), toks := tk }) (by omega) (fun v hm => ?_) fun o e => ?_
    · rw [ei] at hm
      obtain ⟨p, hp, rfl⟩ := List.mem_map.mp hm
      rw [hkk p hp]
      exact ⟨(hT p hp).1.keeps fun c o e _ => Heap.get?_push_of_some _ e, (hT p hp).2⟩
    · have e' : some o = some (seqObj "list" acc.toList.toArray 0) := e.symm.trans hoL
      cases e'
      intro c
      exact absurd (Value.type.inj c) (by decide)
  · obtain ⟨L', g1, g2, g3⟩ := sort_out hkk ei hs2 hb2
    obtain ⟨e', he'⟩ := PyProof.Rows.sortedHeap_at (vs := acc.toList) (out := out.toArray) hoL
    have hlen : (L'.map fun p => V.ref p.1).length ≤ sizeLine := by
      rw [List.length_map, g1.length_eq]
      unfold entL
      rw [List.length_map]
      exact z
    have rv : Vals (L'.map fun p => V.ref p.1) out := by
      rw [g3]
      exact refs_vals L'
    refine wpAny_pure ⟨_, rfl, .ref h'.objs.size, upd H h'.objs.size (.lst (L'.map fun p => V.ref p.1)), I1.laid (t' := tk) (fun b u e => ?_) (Nat.le_refl _)
      (show ObjOk X.prog X.w _ _ _ (.lst (L'.map fun p => V.ref p.1)) from ⟨hlen, out, e', rv, he'⟩), rfl, q L' _ g1 g2 (I1.hok.fresh (Nat.le_refl _))⟩
    have hb : b < h'.objs.size := Heap.lt_size e
    rw [PyProof.Rows.sortedHeap_old (Nat.ne_of_lt hb) (by rw [size_push']; exact Nat.lt_succ_of_lt hb)]
    exact Heap.get?_push_of_some _ e
/-! ### in the data -/
def dSortDI : List D → Mem → RD → Prop := fun ds μ R => match ds with
  | [x] => match dtOf x μ with
    | some (ks, _) => (∀ k ∈ ks, k ≠ []) ∧ ∀ ks' : List (List Int), ks'.Perm ks → ks'.Pairwise (fun a b => HT.lexLt b a = false) → R (.lst (keysD ks')) μ
    | none => False
  | _ => False
theorem keysL_is {K : PySem.W.Frag} {S : Sts} {α : List Addr} {G : Hp} : ∀ {L : List (Addr × List Int)}, (∀ p ∈ L, TupD K G p.1 (p.2.map V.int)) → Iss K S α G (keysD (L.map (·.2))) (L.map fun p => V.ref p.1)
  | [], _ => .nil
  | x :: m, h => .cons (.tup (h x (List.mem_cons_self ..)) (Iss.of_ints _)) (keysL_is fun y hy => h y (List.mem_cons_of_mem _ hy))
theorem sn_sortDI {C : Cfg} : SndCall C (rSortDI C.K) dSortDI := by
  intro ds vs α σ H Γ μ R Q r i w k
  unfold dSortDI at w
  split at w
  · obtain ⟨v, rfl, h⟩ := iss1 i
    split at w
    · rename_i ks ds' hd
      obtain ⟨hne, w⟩ := w
      obtain ⟨a, m, vs', rfl, h1, h2, h3⟩ := r.dict h hd
      have e := h2.1
      subst e
      refine ⟨a, m, rfl, h2.kd h1 gk_ex, fun x hx => hne x.1 (List.mem_map.mpr ⟨x, hx, rfl⟩), fun L' p g1 g2 hp => ?_⟩
      have hT : ∀ q ∈ L', TupD C.K (gk C α μ H) q.1 (q.2.map V.int) := fun q hq => by
        obtain ⟨x, hx, rfl⟩ := List.mem_map.mp (g1.mem_iff.mp hq)
        exact h2.2.1 x hx
      have pm : (L'.map (·.2)).Perm (m.map (·.1)) := by
        have p1 := g1.map (·.2)
        unfold entL at p1
        rw [List.map_map] at p1
        exact p1
      obtain ⟨r2, m2, i2⟩ := r.lst hp (keysL_is hT)
      exact k _ _ _ _ _ (w (L'.map (·.2)) pm (by rw [List.pairwise_map]; exact g2)) r2 m2 i2
    · exact w.elim
  · exact w.elim
end TC

set_option Elab.async false
set_option linter.all false
set_option maxRecDepth 100000
set_option maxHeartbeats 2000000
/-! < of tuples of numbers; sorted of a tuple of such; a + b of lists, that will change; dict(list of pairs); for i, x in enumerate(list that may change). -/
namespace TC
open PySem PySem.Spec PyProof.Rows L2
/-! ### < -/
def dLtT : D → D → Mem → RD → Prop := fun x y μ R => match keyD x, keyD y with
  | some a, some b => R (.bl (HT.lexLt a b)) μ
  | _, _ => False
section
variable {X : Cx} {C : Cfg} {W : WX} {a b e : Expr} {wa wb : DX} {pos : Pos}
theorem sn_ltT : SndOp C (rLtT C.K) dLtT := by
  intro x y v u α σ H Γ μ R Q r ix iy w k
  unfold dLtT at w
  split at w
  · rename_i a b ha hb
    obtain ⟨p, rfl, T1⟩ := key_is ix ha
    obtain ⟨q, rfl, T2⟩ := key_is iy hb
    exact ⟨p, q, a, b, rfl, rfl, (gk_ex.tupd T1).sq, (gk_ex.tupd T2).sq, k _ _ _ _ _ w r Mv.refl (.bl _)⟩
  · exact w.elim
theorem dt_ltT (hK : X.K = C.K) (hu : X.A.units < cLine) (ha : DE X C W a wa) (hb : DE X C W b wb) : DTs X C W (.Compare a [.Lt] [b] pos) (wTest (wBin dLtT wa wb)) :=
  dt_cmp (by have h := op_ltT (X := X) hu; rw [hK] at h; exact h) sn_ltT ha hb (nomark _)
/-! ### a + b, a list that will change -/
def dAddM : D → D → Mem → RD → Prop := fun x y μ R => match x, y with
  | .lst a, .lst b => a.length + b.length ≤ big ∧ R (.mt μ.length) (μ ++ [.lst (a ++ b)])
  | _, _ => False
theorem sn_addM : SndOp C rCat dAddM := by
  intro x y v u α σ H Γ μ R Q r ix iy w k
  unfold dAddM at w
  split at w
  · rename_i a b
    cases ix with
    | lst h1 q1 =>
      cases iy with
      | lst h2 q2 =>
        have l1 := q1.length
        have l2 := q2.length
        refine ⟨_, _, _, _, rfl, rfl, gk_ex _ _ h1, gk_ex _ _ h2, big_ok (by omega), fun p hp => ?_⟩
        obtain ⟨r2, m2, i2⟩ := r.mlst hp (q1.append q2)
        exact k _ _ _ _ _ w.2 r2 m2 i2
  · exact w.elim
theorem de_addM (ha : DE X C W a wa) (hb : DE X C W b wb) : DE X C W (.BinOp a .Add b pos) (wBin dAddM wa wb) := de_op op_cat sn_addM ha hb
end
/-! ### l[::-1], l a list at rest -/
def wRevL (we : DX) : DX := fun Γ μ R Z => we Γ μ (fun d μ1 => match d with | .lst xs => R (.lst xs.reverse) μ1 | _ => False) Z
theorem de_revL {X : Cx} {C : Cfg} {W : WX} {e : Expr} {we : DX} {pos : Pos} {k : Nat} {p1 p2 p3 : Pos} (hK : X.K = C.K) (he : DE X C W e we) : DE X C W (.Subscript e (.Slice none none (some (.UnaryOp .USub (.Constant (.int 1) k p1) p2)) p3) pos) (wRevL we) := (pe_revL he).imp fun σ H Q ⟨α, Γ, μ, R, Z, r, w, k, z⟩ =>
  ⟨α, Γ, μ, _, Z, r, w, fun d v α1 μ1 H1 w1 r1 m1 i1 => by
    rw [hK]
    cases i1 with
    | lst h q =>
      refine ⟨_, _, rfl, SqL.of (gk_ex _ _ h), fun p hp => ?_⟩
      obtain ⟨r2, m2, i2⟩ := r1.lst hp q.reverse
      exact k _ _ _ _ _ w1 r2 (m1.trans m2) i2
    | _ => exact w1.elim, z⟩
/-! ### sorted(t), t a tuple of tuples of numbers -/
def rSortUT (K : PySem.W.Frag) : List V → Hp → VK → Prop := fun xs H Q => ∃ (a : Addr) (L : List (Addr × List Int)), xs = [V.ref a] ∧ SqT K H a (L.map fun p => V.ref p.1) ∧ L.length ≤ 1000 ∧ (∀ p ∈ L, SqT K H p.1 (p.2.map V.int) ∧ p.2 ≠ []) ∧
  ∀ (L' : List (Addr × List Int)) (p : Addr), L'.Perm L → L'.Pairwise (fun q r => HT.lexLt r.2 q.2 = false) → H p = none → Q (.ref p) (upd H p (.lst (L'.map fun p => V.ref p.1)))
theorem cr_sortedUT {X : Cx} : CallR X (.builtin "sorted") (rSortUT X.K) := by
  intro pins s σ H xs us Q I r h
  obtain ⟨a, L, rfl, hs, hz, hx, q⟩ := h
  obtain ⟨u, rfl, rx⟩ := r.one
  cases rx
  obtain ⟨its, rv, hl, _⟩ := I.tuple hs
  have ei := refs_eq rv
  have ll : its.length = L.length := by rw [ei, List.length_map]
  have hz' : its.length ≤ sizeLine := by rw [ll]; exact Nat.le_trans hz (by decide)
  refine Calls.call_function_entry PyProof.Rows.kind_sorted PyProof.Rows.plain_sorted PyProof.Rows.entry_sorted (PyProof.Rows.args_sorted1 _) ?_
  unfold Builtin.«sorted»
  refine wpAny_bind (m := checkCount "sorted" 1 1 _) (wpAny_pure ?_)
  refine wpAny_bind (collect_tup hl ?_ hz')
  obtain ⟨h', eh⟩ : ∃ h', h' = (s.heap.push (seqObj "list" #[] 0)).update s.heap.objs.size (Obj.mapSeq (· ++ its.toArray)) := ⟨_, rfl⟩
  rw [← eh]
  have hk : ∀ b o, s.heap.get? b = some o → h'.get? b = some o := fun b o e => by
    have hb : b ≠ s.heap.objs.size := Nat.ne_of_lt (Heap.lt_size e)
    rw [eh, Heap.get?_update_ne _ _ _ _ hb]
    exact Heap.get?_push_of_some _ e
  have I1 : Inv X pins σ H { s with heap := h' } := I.kept (t' := s.toks) hk
  have hT : ∀ p ∈ L, TupV h' (.ref p.1) p.2 ∧ p.2 ≠ [] := fun p hp => ⟨(tupV_of I (hx p hp).1).keeps fun c o e _ => hk c o e, (hx p hp).2⟩
  have hkk := kOf_mem fun p hp => (hT p hp).1
  refine wpAny_bind (wpAny_newList ?_ hz')
  have hoL : (h'.push (seqObj "list" its.toArray 0)).get? h'.objs.size = some (seqObj "list" its.toArray 0) := Heap.get?_push_size _ rfl
  show wpAny _ _ _ _ _ { s with heap := h'.push (seqObj "list" its.toArray 0) }
  refine wpAny_bind (wpAny_holding (wpAny_call_entry PyProof.Rows.slot_list_sort ⟨_, hoL, rfl⟩ PyProof.Rows.entry_list_sort
    (SrtO.list_sort_ord (s := { s with heap := h'.push (seqObj "list" its.toArray 0) }) (swo_tup (kOf L)) hoL hz' (fun h2 => ?_) fun out hs2 hb2 => ⟨_, rfl, ?_⟩)
    (PyProof.Rows.args_list_sort _)))
  · refine tups_sortable (s := { s with heap := h'.push (seqObj "list" its.toArray 0) }) (by omega) (fun v hm => ?_) fun o e => ?_
    · rw [ei] at hm
      obtain ⟨p, hp, rfl⟩ := List.mem_map.mp hm
      rw [hkk p hp]
      exact ⟨(hT p hp).1.keeps fun c o e _ => Heap.get?_push_of_some _ e, (hT p hp).2⟩
    · have e' : some o = some (seqObj "list" its.toArray 0) := e.symm.trans hoL
      cases e'
      intro c
      exact absurd (Value.type.inj c) (by decide)
  · obtain ⟨L', g1, g2, g3⟩ := sort_out hkk ei hs2 hb2
    obtain ⟨e', he'⟩ := PyProof.Rows.sortedHeap_at (vs := its) (out := out.toArray) hoL
    have hlen : (L'.map fun p => V.ref p.1).length ≤ sizeLine := by
      rw [List.length_map, g1.length_eq]
      exact Nat.le_trans hz (by decide)
    have rv : Vals (L'.map fun p => V.ref p.1) out := by
      rw [g3]
      exact refs_vals L'
    refine wpAny_pure ⟨_, rfl, .ref h'.objs.size, upd H h'.objs.size (.lst (L'.map fun p => V.ref p.1)), I1.laid (t' := s.toks) (fun b u e => ?_) (Nat.le_refl _)
      (show ObjOk X.prog X.w _ _ _ (.lst (L'.map fun p => V.ref p.1)) from ⟨hlen, out, e', rv, he'⟩), rfl, q L' _ g1 g2 (I1.hok.fresh (Nat.le_refl _))⟩
    have hb : b < h'.objs.size := Heap.lt_size e
    rw [PyProof.Rows.sortedHeap_old (Nat.ne_of_lt hb) (by rw [size_push']; exact Nat.lt_succ_of_lt hb)]
    exact Heap.get?_push_of_some _ e
theorem rows_is {K : PySem.W.Frag} {S : Sts} {α : List Addr} {G : Hp} : ∀ {ks : List (List Int)} {vs : List V}, Iss K S α G (keysD ks) vs → ∃ L : List (Addr × List Int), L.map (·.2) = ks ∧ vs = L.map (fun p => V.ref p.1) ∧ ∀ p ∈ L, TupD K G p.1 (p.2.map V.int)
  | [], _, .nil => ⟨[], rfl, rfl, fun p h => nomatch h⟩
  | k :: ks, _, .cons h r => by
    obtain ⟨L, e1, rfl, h2⟩ := rows_is (ks := ks) r
    cases h with
    | tup h q =>
      have := q.ints
      subst this
      refine ⟨(_, k) :: L, by rw [List.map_cons, e1], rfl, fun p hp => ?_⟩
      rcases List.mem_cons.mp hp with rfl | hp
      · exact h
      · exact h2 p hp
def dSortUT : List D → Mem → RD → Prop := fun ds μ R => match ds with
  | [.tup xs] => ∃ ks : List (List Int), xs = keysD ks ∧ ks.length ≤ 1000 ∧ (∀ k ∈ ks, k ≠ []) ∧ ∀ ks' : List (List Int), ks'.Perm ks → ks'.Pairwise (fun a b => HT.lexLt b a = false) → R (.lst (keysD ks')) μ
  | _ => False
theorem sn_sortUT {C : Cfg} : SndCall C (rSortUT C.K) dSortUT := by
  intro ds vs α σ H Γ μ R Q r i w k
  unfold dSortUT at w
  split at w
  · obtain ⟨v, rfl, h⟩ := iss1 i
    obtain ⟨ks, rfl, hz, hne, w⟩ := w
    cases h with
    | tup h q =>
      obtain ⟨L, rfl, rfl, hT⟩ := rows_is q
      refine ⟨_, L, rfl, gk_ex.t h.sq, by simpa using hz, fun p hp => ⟨(gk_ex.tupd (hT p hp)).sq, hne _ (List.mem_map.mpr ⟨p, hp, rfl⟩)⟩, fun L' p g1 g2 hp => ?_⟩
      obtain ⟨r2, m2, i2⟩ := r.lst hp (keysL_is fun q hq => hT q (g1.mem_iff.mp hq))
      exact k _ _ _ _ _ (w (L'.map (·.2)) (g1.map _) (by rw [List.pairwise_map]; exact g2)) r2 m2 i2
  · exact w.elim
/-! ### dict(list of pairs) -/
abbrev EntV := List Int × Addr × V
def rDictPI (K : PySem.W.Frag) : List V → Hp → VK → Prop := fun xs H Q => ∃ (a : Addr) (ps : List Addr) (es : List EntV), xs = [V.ref a] ∧ SqL K H a (ps.map V.ref) ∧ Paired (fun p (e : EntV) => SqT K H p [V.ref e.2.1, e.2.2] ∧ TupD K H e.2.1 (e.1.map V.int)) ps es ∧
  ∀ (p : Addr) (m : List Ent), H p = none → Paired (fun (e : EntV) (x : Ent) => x.1 = e.1 ∧ x.2.1 = e.2.1 ∧ RelV e.2.2 x.2.2) es m → Q (.ref p) (upd H p (.ext (DictI p (storedAllH [] m))))
theorem pairs_ofI {X : Cx} {pins : List (Addr × Obj)} {σ : L2.St} {H : Hp} {s : Shared} (I : Inv X pins σ H s) : ∀ {ps : List Addr} {es : List EntV}, Paired (fun p (e : EntV) => SqT X.K H p [V.ref e.2.1, e.2.2] ∧ TupD X.K H e.2.1 (e.1.map V.int)) ps es →
    ∃ m : List Ent, Paired (fun (e : EntV) (x : Ent) => x.1 = e.1 ∧ x.2.1 = e.2.1 ∧ RelV e.2.2 x.2.2) es m ∧ m.length = ps.length ∧ (∀ x ∈ m, TupD X.K H x.2.1 (x.1.map V.int)) ∧ ∀ (j : Nat) (x : Ent), m[j]? = some x → ∃ b : Addr, ps[j]? = some b ∧ IsTup s.heap b #[.ref x.2.1, x.2.2]
  | _, _, .nil => ⟨[], .nil, rfl, (fun x h => nomatch h), fun j x e => by simp at e⟩
  | _, _, .cons (a := p) (b := e) h t => by
    obtain ⟨m, r, hl, hT, hp⟩ := pairs_ofI I t
    obtain ⟨its, rv, ht, _⟩ := I.tuple h.1
    obtain ⟨u, y, ei, ru, ry⟩ := vals2 rv
    subst ei
    cases (show u = Value.ref e.2.1 from ru)
    refine ⟨(e.1, e.2.1, y) :: m, .cons ⟨rfl, rfl, ry⟩ r, by rw [List.length_cons, List.length_cons, hl], fun x hx => ?_, fun j x ej => ?_⟩
    · rcases List.mem_cons.mp hx with rfl | hx
      · exact h.2
      · exact hT x hx
    · cases j with
      | zero =>
        have e' : (e.1, e.2.1, y) = x := Option.some.inj ej
        subst e'
        exact ⟨p, rfl, ht⟩
      | succ j =>
        obtain ⟨b, e1, e2⟩ := hp j x (by simpa using ej)
        exact ⟨b, by simpa using e1, e2⟩
theorem call_dictPI {X : Cx} (hu : X.A.units + 2 < cLine) (hcalm : X.calm = true) : CallR X (.type "dict") (rDictPI X.K) := by
  intro pins s σ H xs us Q I r q
  obtain ⟨a, ps, es, rfl, hq, hp, q⟩ := q
  obtain ⟨u, rfl, rx⟩ := r.one
  cases rx
  obtain ⟨its, rv, pl, hz⟩ := I.list hq
  have ei := refs_at rv
  subst ei
  rw [List.length_map] at hz
  obtain ⟨m, rel, hl, hT, hpr⟩ := pairs_ofI I hp
  obtain ⟨o, n, ho, hc, hd, hdat⟩ := pl
  let Ts : Nat → Addr := fun j => ps.getD j 0
  let prs : List (Value × Value) := m.map fun x => (Value.ref x.2.1, x.2.2)
  have hlen : prs.length = ps.length := by simp [prs, hl]
  have P := PairArg.list (prog := X.prog) (w := X.w) a (ps.map Value.ref).toArray Ts prs
  have ok : PlainSeq "list" s.heap a (ps.map Value.ref).toArray ∧ PairItems s.heap (ps.map Value.ref).toArray Ts prs := by
    refine ⟨⟨o, n, ho, hc, hd, hdat⟩, by simp [hlen], fun j k v hj => ?_⟩
    have hj : (m.map fun x => (Value.ref x.2.1, x.2.2))[j]? = some (k, v) := hj
    rw [List.getElem?_map] at hj
    cases hm : m[j]? with
    | none => rw [hm] at hj; cases hj
    | some x =>
      rw [hm] at hj
      cases hj
      obtain ⟨b, e1, e2⟩ := hpr j x hm
      have eT : Ts j = b := by
        show ps.getD j 0 = b
        rw [List.getD_eq_getElem?_getD, e1]
        rfl
      rw [eT]
      exact ⟨by simp [e1], .inl e2⟩
  refine PySem.call_dict_pairsH (knd := tupI X.prog X.w) (ps := m) P (I.ok.hd hcalm) hu ok ⟨by simp [prs], fun i key v hr => ?_⟩ (fun h' hk x hx => ?_) (by simp [prs]; omega) fun h' tk hd' k => ?_
  · have hr : (m.map fun x => (Value.ref x.2.1, x.2.2))[i]? = some (key, v) := hr
    rw [List.getElem?_map] at hr
    cases hm : m[i]? with
    | none => rw [hm] at hr; cases hr
    | some x =>
      rw [hm] at hr
      cases hr
      exact ⟨x.1, x.2.1, rfl, rfl⟩
  · obtain ⟨o', its', n', g⟩ := key_int I (hT x hx)
    refine ⟨o', its', n', hk _ _ (Nat.ne_of_lt (Heap.lt_size g.1)) (fun h => nomatch h) g.1, g.2⟩
  · obtain ⟨q2, es', ep, hq', h2, h3, h4, _, h5⟩ := hd'
    have hm : (s.heap.objs.size == sysModules) = false := beq_eq_false_iff_ne.mpr (Nat.ne_of_gt I.big)
    have hl' : (storedAllH [] m).length ≤ sizeLine := by
      have := storedAllH_length m ([] : List Ent)
      rw [List.length_nil] at this
      omega
    exact ⟨.ref s.heap.objs.size, _, I.laid (t' := tk) (o := .ext (DictI s.heap.objs.size (storedAllH [] m))) (fun b o e => k b o (fun h => nomatch h) e) (Nat.le_refl _) (dictI_ok ⟨⟨hl', hm⟩, q2, es', ep, hq', h2, h3, h4, h5⟩), rfl, q _ m (I.hok.fresh (Nat.le_refl _)) rel⟩
/-- the pair (t, d) -/
def prD (p : List Int × D) : D := .tup [.tup (p.1.map D.int), p.2]
def putAll : List (List Int × D) → List (List Int) × List D → List (List Int) × List D
  | [], a => a
  | p :: ps, a => putAll ps (putD a.1 a.2 p.1 p.2)
def dDictPM : List D → Mem → RD → Prop := fun ds μ R => match ds with
  | [.lst xs] => ∃ kvs : List (List Int × D), xs = kvs.map prD ∧ R (.mt μ.length) (μ ++ [.dt (putAll kvs ([], [])).1 (putAll kvs ([], [])).2])
  | _ => False
theorem prs_is {K : PySem.W.Frag} {S : Sts} {α : List Addr} {G : Hp} : ∀ {kvs : List (List Int × D)} {vs : List V}, Iss K S α G (kvs.map prD) vs → ∃ (ps : List Addr) (es : List EntV), vs = ps.map V.ref ∧ Paired (fun p (e : EntV) => SqT K G p [V.ref e.2.1, e.2.2] ∧ TupD K G e.2.1 (e.1.map V.int)) ps es ∧ Paired (fun (p : List Int × D) (e : EntV) => e.1 = p.1 ∧ Is K S α G p.2 e.2.2) kvs es
  | [], _, .nil => ⟨[], [], rfl, .nil, .nil⟩
  | p :: kvs, _, .cons h r => by
    obtain ⟨ps, es, rfl, h1, h2⟩ := prs_is (kvs := kvs) r
    cases h with
    | @tup a xs _ h q =>
      obtain ⟨v, u, rfl, i1, i2⟩ := iss2 q
      obtain ⟨b, rfl, T⟩ := key_is i1 (keyD_ints p.1)
      exact ⟨a :: ps, (p.1, b, u) :: es, rfl, .cons ⟨h.sq, T⟩ h1, .cons ⟨rfl, i2⟩ h2⟩
theorem putAll_ok {K : PySem.W.Frag} {S : Sts} {α : List Addr} {G : Hp} : ∀ {kvs : List (List Int × D)} {es : List EntV} {m m0 : List Ent} {ks : List (List Int)} {ds : List D} {vs : List V},
    Paired (fun (p : List Int × D) (e : EntV) => e.1 = p.1 ∧ Is K S α G p.2 e.2.2) kvs es → Paired (fun (e : EntV) (x : Ent) => x.1 = e.1 ∧ x.2.1 = e.2.1 ∧ RelV e.2.2 x.2.2) es m → (∀ e ∈ es, TupD K G e.2.1 (e.1.map V.int)) → DtOk K G m0 ks vs → Iss K S α G ds vs →
    ∃ vs', DtOk K G (storedAllH m0 m) (putAll kvs (ks, ds)).1 vs' ∧ Iss K S α G (putAll kvs (ks, ds)).2 vs'
  | _, _, _, _, _, _, _, .nil, .nil, _, h1, h2 => ⟨_, h1, h2⟩
  | _, _, _, m0, ks, ds, vs, .cons (a := p) (b := e) h t, .cons (b := x) h' t', hT, h1, h2 => by
    obtain ⟨e1, i1⟩ := h
    obtain ⟨x1, x2, rv⟩ := h'
    have T : TupD K G x.2.1 (p.1.map V.int) := by
      have := hT e (List.mem_cons_self ..)
      rw [e1] at this
      rw [x2]
      exact this
    obtain ⟨vs', p1, p2⟩ := put_ok (b := x.2.1) h1 h2 T rv i1
    have ex : x = (p.1, x.2.1, x.2.2) := by
      rw [← e1, ← x1]
    show ∃ vs', DtOk K G (storedAllH (storedH m0 x.1 x.2.1 x.2.2) _) (putAll _ (putD ks ds p.1 p.2)).1 vs' ∧ _
    rw [x1, e1]
    exact putAll_ok t t' (fun e' he => hT e' (List.mem_cons_of_mem _ he)) p1 p2
theorem sn_dictPM {C : Cfg} : SndCall C (rDictPI C.K) dDictPM := by
  intro ds vs α σ H Γ μ R Q r i w k
  unfold dDictPM at w
  split at w
  · obtain ⟨v, rfl, h⟩ := iss1 i
    obtain ⟨kvs, rfl, w⟩ := w
    cases h with
    | lst h q =>
      obtain ⟨ps, es, rfl, h1, h2⟩ := prs_is q
      have up : ∀ {ps : List Addr} {es : List EntV}, Paired (fun p (e : EntV) => SqT C.K (gk C α μ H) p [V.ref e.2.1, e.2.2] ∧ TupD C.K (gk C α μ H) e.2.1 (e.1.map V.int)) ps es → Paired (fun p (e : EntV) => SqT C.K H p [V.ref e.2.1, e.2.2] ∧ TupD C.K H e.2.1 (e.1.map V.int)) ps es ∧ ∀ e ∈ es, TupD C.K (gk C α μ H) e.2.1 (e.1.map V.int) := by
        intro ps es h
        induction h with
        | nil => exact ⟨.nil, fun e h => nomatch h⟩
        | cons h t ih =>
          refine ⟨.cons ⟨gk_ex.t h.1, gk_ex.tupd h.2⟩ ih.1, fun e he => ?_⟩
          rcases List.mem_cons.mp he with rfl | he
          · exact h.2
          · exact ih.2 e he
      obtain ⟨u1, u2⟩ := up h1
      refine ⟨_, ps, es, rfl, SqL.of (gk_ex _ _ h), u1, fun p m hp rel => ?_⟩
      obtain ⟨vs', p1, p2⟩ := putAll_ok h2 rel u2 (m0 := []) (ks := []) (ds := []) (vs := []) ⟨rfl, (fun x h => nomatch h), Paired.nil⟩ .nil
      obtain ⟨r2, m2⟩ := r.grow (o := .ext (DictI p (storedAllH [] m))) (c := .dt (putAll kvs ([], [])).1 (putAll kvs ([], [])).2) hp ⟨_, vs', upd_same, p1, p2⟩ (fun q => nomatch q)
      exact k _ _ _ _ _ w r2 m2 (.mt (by rw [← r.len]; simp))
  · exact w.elim
/-! ### for i, x in enumerate(l), l a list that may change elsewhere -/
def wForPML (k : Nat) (xs : List D) (i j : Nat) (body : DS) : List (D × D) → DS
  | [], Γ, μ, P => μ[k]? = some (.lst xs) ∧ P.nx Γ μ
  | x :: r, Γ, μ, P => μ[k]? = some (.lst xs) ∧ body ((Γ.set i (some x.1)).set j (some x.2)) μ ⟨fun Γ' μ' => wForPML k xs i j body r Γ' μ' P, P.rt, P.nx, fun Γ' μ' => wForPML k xs i j body r Γ' μ' P, P.rz⟩
theorem wForPML_at {k : Nat} {xs : List D} {i j : Nat} {body : DS} {r : List (D × D)} {Γ : Gam} {μ : Mem} {P : Post} (h : wForPML k xs i j body r Γ μ P) : μ[k]? = some (.lst xs) := by
  cases r with
  | nil => exact h.1
  | cons x r => exact h.1
def wForEnM (i j : Nat) (was : DA) (body : DS) : DS := fun Γ μ P => was Γ μ (fun ds μ1 => match ds with
  | [.mt k] => ∃ xs, μ1[k]? = some (.lst xs) ∧ wForPML k xs i j body (enumD xs) Γ μ1 P
  | _ => False) P.rz
section
variable {X : Cx} {C : Cfg} {W : WX} {a : Expr} {was : DA} {elts : List Expr} {kk i j : Nat} {tpos p pos fpos : Pos} {body : List Stmt} {wb : DS}
theorem ds_forEnM (hK : X.K = C.K) (hp : PassesOwn (model X.prog X.w) X.A X.env X.xe) (hc : X.calm = true) (hgl : Gl X "enumerate") (hm : X.mg "enumerate" = none) (ha : DAs X C W [a] was) (hg : PG X (.Tuple elts kk tpos) (gPair X.K i j)) (hb : DSs X C W body wb)
    (hs0 : starEach [a] X.env = [(false, eval a X.env)] := by rfl) (hs : ∀ x, foldedSetIterable (.Call (.Name "enumerate" p) [a] [] pos) X.env x = pure x := by intro _; rfl) : DSt X C W (.For (.Tuple elts kk tpos) (.Call (.Name "enumerate" p) [a] [] pos) body [] fpos) (wForEnM i j was wb) :=
  (ps_for hp hc (pi_enum hgl hm ha hs0) hg hb hs).imp fun D σ H ⟨α, Γ, μ, P, r, w, n, t, b, c, z⟩ => by
  refine ⟨α, Γ, μ, _, _, r, w, fun ds vs α1 μ1 H1 w1 r1 m1 i1 => ?_, z⟩
  split at w1
  · rename_i k
    obtain ⟨xs, hx, w1⟩ := w1
    obtain ⟨v, rfl, h⟩ := iss1 i1
    cases h with
    | @mt ad _ hk =>
      have at_ : ∀ {α' : List Addr} {μ' : Mem} {H' : Hp} {σ' : L2.St} {Γ' : Gam}, Rl C α' σ' H' Γ' μ' → Mv C α1 μ1 H1 α' μ' H' → μ'[k]? = some (.lst xs) → ∃ zs, H' ad = some (.lst zs) ∧ Iss C.K C.S α' (gk C α' μ' H') xs zs := fun r' m' h' => by
        obtain ⟨zs, e1, e2⟩ := r'.cells k ad _ (m'.pre _ _ hk) h'
        exact ⟨zs, e1, e2⟩
      obtain ⟨zs, e1, e2⟩ := at_ r1 Mv.refl hx
      refine ⟨ad, zs, rfl, SqL.of e1, ?_⟩
      refine ⟨fun q m σ' H' => m = xs.length - q ∧ q ≤ xs.length ∧ ∃ α' Γ' μ', Rl C α' σ' H' Γ' μ' ∧ Mv C α1 μ1 H1 α' μ' H' ∧ wForPML k xs i j wb ((enumD xs).drop q) Γ' μ' P, ⟨xs.length, by simp, Nat.zero_le _, α1, Γ, μ1, r1, Mv.refl, w1⟩, ?_⟩
      rintro q m σ' H' ⟨rfl, hq, α', Γ', μ', r', m', w'⟩
      have hl : (enumD xs).length = xs.length := by unfold enumD; simp
      obtain ⟨ys, f1, f2⟩ := at_ r' m' (wForPML_at w')
      have lys := f2.length
      by_cases hlt : q < xs.length
      · right
        refine ⟨⟨ys, ys[q]'(by omega), SqL.of f1, List.getElem?_eq_getElem (by omega)⟩, fun σ2 H2 => ∃ α' Γ' μ', Rl C α' σ2 H2 Γ' μ' ∧ Mv C α1 μ1 H1 α' μ' H2 ∧ wForPML k xs i j wb ((enumD xs).drop (q + 1)) Γ' μ' P, fun σ2 H2 h2 => ⟨xs.length - (q + 1), by omega, rfl, hlt, h2⟩, ?_⟩
        rintro x H2 ⟨T, v, rfl, hT, rfl, hv⟩
        have hv := hv ys (SqL.of f1)
        obtain ⟨d, hd, id⟩ := f2.get' hv
        have hdp : (enumD xs)[q]? = some (.int (q : Int), d) := by
          unfold enumD
          rw [List.getElem?_zip_eq_some]
          exact ⟨by rw [List.getElem?_map, List.getElem?_range hlt]; rfl, hd⟩
        have e : (enumD xs).drop q = (.int (q : Int), d) :: (enumD xs).drop (q + 1) := by
          obtain ⟨hl, he⟩ := List.getElem?_eq_some_iff.mp hdp
          rw [List.drop_eq_getElem_cons hl, he]
        rw [e] at w'
        obtain ⟨_, w'⟩ := w'
        have ex : Ex H' (upd H' T (.tup [.int (q : Nat), v])) := ex_new hT
        have r2 := r'.ext ex
        have m2 : Mv C α1 μ1 H1 α' μ' (upd H' T (.tup [.int (q : Nat), v])) := m'.trans (Mv.ext ex)
        refine ⟨T, [.int (q : Nat), v], rfl, .inl (.inl upd_same), rfl, .int (q : Nat), [v], rfl, v, [], rfl, rfl, ?_⟩
        refine ⟨α', _, μ', _, (r2.setv (.int _)).setv ((Mv.ext ex).is id), w', fun α3 Γ3 μ3 σ3 H3 w3 r3 m3 => ⟨α3, Γ3, μ3, r3, m2.trans m3, w3⟩, fun d v α3 Γ3 μ3 σ3 H3 w3 r3 m3 i3 => t d v α3 Γ3 μ3 σ3 H3 w3 r3 ((m1.trans m2).trans m3) i3,
          fun α3 Γ3 μ3 σ3 H3 w3 r3 m3 => n α3 Γ3 μ3 σ3 H3 w3 r3 ((m1.trans m2).trans m3), fun α3 Γ3 μ3 σ3 H3 w3 r3 m3 => ⟨α3, Γ3, μ3, r3, m2.trans m3, w3⟩, z.mv (m1.trans m2)⟩
      · left
        have eq : q = xs.length := by omega
        subst eq
        rw [← hl, List.drop_length] at w'
        exact ⟨⟨ys, SqL.of f1, by omega⟩, n α' Γ' μ' σ' H' w'.2 r' (m1.trans m')⟩
  · exact w1.elim
end
theorem ru1 {k : Nat} {A : Around} (r : Room k A) : A.units + 1 < cLine := by have := r.un; omega
theorem ru2 {k : Nat} {A : Around} (r : Room k A) : A.units + 2 < cLine := by have := r.un; omega
theorem ru65 {k : Nat} {A : Around} (r : Room k A) : A.units + 65 < cLine := by have := r.un; omega
end TC

set_option Elab.async false
set_option linter.all false
set_option maxRecDepth 100000
set_option maxHeartbeats 2000000
/-! Groups: what the defs are to do, at the data level. -/
namespace TC
open PySem PySem.Spec PyProof.Rows L2
/-- a turn of size n -/
def Tn (n : Nat) (t : List Int) : Prop := tOk t = true ∧ t.length = n
def seqD (x : D) : Option (List D) := match x with
  | .lst ds => some ds
  | .tup ds => some ds
  | _ => none
/-- what comes of the gens, one put behind the other -/
inductive Cl (n : Nat) (gs : List (List Int)) : List Int → Prop
  | e : Cl n gs (rgL n)
  | s {t g : List Int} : Cl n gs t → g ∈ gs → Cl n gs (putL t g)
def lets (ts : List (List Int)) : List (List Int) := ts ++ ts.map backL
def ltL (a b : List Int) : Prop := HT.lexLt a b = true
/-- the group of ts, in its row -/
def GrpOk (n : Nat) (ts g : List (List Int)) : Prop := g.Pairwise ltL ∧ ∀ t, t ∈ g ↔ Cl n ts t
def IsGrp (n : Nat) (x : D) : Prop := ∃ ts : List (List Int), x = .tup (ts.map tI) ∧ (∀ t ∈ ts, Tn n t) ∧ GrpOk n ts ts
/-! letters, rows, words -/
def setD (a : List (List Int) × List D) (k : List Int) (d : D) : List (List Int) × List D := if a.1.contains k = true then a else (a.1 ++ [k], a.2 ++ [d])
def lettersF : Nat → List (List Int) → List (List Int) × List D → List (List Int) × List D
  | _, [], a => a
  | i, t :: ts, a => lettersF (i + 1) ts (setD (setD a (backL t) (.tup [.int (i : Int), .int (-1)])) t (.tup [.int (i : Int), .int 1]))
structure Wst where
  ks : List (List Int)
  ws : List (List D)
  fd : List (List Int)
def wordAt (s : Wst) (t : List Int) : List D := s.ws.getD (s.ks.idxOf t) []
def stepW (t g : List Int) (l : D) (s : Wst) : Wst := if s.ks.contains (putL t g) = true then s else ⟨s.ks ++ [putL t g], s.ws ++ [wordAt s t ++ [l]], s.fd ++ [putL t g]⟩
def inF (t : List Int) : List (List Int × D) → Wst → Wst
  | [], s => s
  | (g, l) :: r, s => inF t r (stepW t g l s)
def rowF (ls : List (List Int × D)) : List (List Int) → Wst → Wst
  | [], s => s
  | t :: r, s => rowF ls r (inF t ls s)
def wsD (ws : List (List D)) : List D := ws.map D.lst
/-- the words of all that comes -/
def WordsOk (n : Nat) (ts ks : List (List Int)) (ws : List (List D)) : Prop := ks.Nodup ∧ ws.length = ks.length ∧ ∀ t, t ∈ ks ↔ Cl n (lets ts) t
def sp_need_turns (A : Adr) : SpD := fun ds R Z => ∃ x, ds = [x] ∧ okD x = true ∧ match seqD x with
  | some xs => (∀ d ∈ xs, okT d = true) ∧ ((∀ d ∈ xs, sizeOf d ≠ 0) → R .non) ∧ ((∃ d ∈ xs, sizeOf d = 0) → Z A.c_NoTurn)
  | none => Z A.c_NoTurn
def isRow (x : D) (ts : List (List Int)) : Prop := x = .lst (ts.map tI) ∨ x = .tup (ts.map tI)
def sp_need_all_of (A : Adr) : SpD := fun ds R Z => ∃ x ts, ∃ n : Nat, ds = [x, .int n] ∧ isRow x ts ∧ ts.length ≤ 1000 ∧ ((∀ t ∈ ts, t.length = n) → R .non) ∧ ((∃ t ∈ ts, t.length ≠ n) → Z A.c_NoTurn)
def sm_letters_of (A : Adr) : SpM := fun ds μ R _ => ∃ k ts n, ds = [.mt k] ∧ μ[k]? = some (.lst (ts.map tI)) ∧ ts.length ≤ 1000 ∧ (∀ t ∈ ts, Tn n t) ∧ R (.dt (lettersF 0 ts ([], [])).1 (lettersF 0 ts ([], [])).2) (μ ++ [.dead])
def WstOk (n : Nat) (s : Wst) : Prop := s.ws.length = s.ks.length ∧ (∀ w ∈ s.ws, w.length ≤ s.ks.length ∧ pures w = true) ∧ s.ks.Nodup ∧ ∀ t ∈ s.ks, Tn n t
def sm_next_row (A : Adr) : SpM := fun ds μ R _ => ∃ k row lk ld s n, ds = [.lst (row.map tI), .mt k, .dt lk ld] ∧ μ[k]? = some (.dt s.ks (wsD s.ws)) ∧ s.fd = [] ∧ lk.length = ld.length ∧ pures ld = true ∧ WstOk n s ∧ (∀ t ∈ row, t ∈ s.ks) ∧ row.length ≤ 1000 ∧ (∀ t ∈ lk, Tn n t) ∧
  R (.lst ((rowF (lk.zip ld) row s).fd.map tI)) (μ.set k (.dt (rowF (lk.zip ld) row s).ks (wsD (rowF (lk.zip ld) row s).ws)) ++ [.dead])
def sm_words_of (A : Adr) : SpM := fun ds μ R _ => ∃ k ts, ∃ n : Nat, ds = [.mt k, .int n] ∧ μ[k]? = some (.lst (ts.map tI)) ∧ ts.length ≤ 1000 ∧ (2 ≤ n ∧ n ≤ 5) ∧ (∀ t ∈ ts, Tn n t) ∧ ∀ ks ws (e : Mem), WordsOk n ts ks ws → R (.dt ks (wsD ws)) (μ ++ e)
def sp_few_and_all (A : Adr) : SpD := fun ds R _ => ∃ x ts, ∃ n : Nat, ds = [x, .int n] ∧ isRow x ts ∧ ts.length ≤ 1000 ∧ (2 ≤ n ∧ n ≤ 5) ∧ (∀ t ∈ ts, Tn n t) ∧
  ∀ few g, (∀ t ∈ few, t ∈ ts) → GrpOk n ts g → GrpOk n few g → R (.tup [.lst (few.map tI), .tup (g.map tI)])
/-- what made tells of a row and a size -/
def madeOk (xs : List D) (y : D) (R : D → Prop) (ZS ZT : Prop) : Prop :=
  ((∃ d ∈ xs, sizeOf d = 0) → ZT) ∧ ((∀ d ∈ xs, sizeOf d ≠ 0) → isSize y = false → ZS) ∧
  ∀ (n : Nat) (ts : List (List Int)), y = .int n → 2 ≤ n → n ≤ 5 → xs = ts.map tI → (∀ t ∈ ts, tOk t = true) → ((∃ t ∈ ts, t.length ≠ n) → ZT) ∧ ((∀ t ∈ ts, t.length = n) → ∀ g, GrpOk n ts g → R (.tup (g.map tI)))
def sp_made (A : Adr) : SpD := fun ds R Z => ∃ x y, ds = [x, y] ∧ okD x = true ∧ okT y = true ∧ match seqD x with
  | some xs => (∀ d ∈ xs, okT d = true) ∧ xs.length ≤ 1000 ∧ madeOk xs y R (Z A.c_NoSize) (Z A.c_NoTurn)
  | none => Z A.c_NoTurn
def sp_is_group (A : Adr) : SpD := fun ds R Z => ∃ x y, ds = [x, y] ∧ okD x = true ∧ okT y = true ∧ (∀ xs, x = .tup xs → xs.length ≤ 1000 ∧ ∀ d ∈ xs, okT d = true) ∧
  (isSize y = false → Z A.c_NoSize) ∧ ∀ n : Nat, y = .int n → 2 ≤ n → n ≤ 5 → ∀ b : Bool, (b = true ↔ IsGrp n x) → R (.bl b)
/-! ### the law's own -/
def sx_law_mixed (A : Adr) : SpD := fun ds R _ => ∃ x xs, ds = [.st, x] ∧ seqD x = some xs ∧ xs.length ≤ 1000 ∧ ((∃ ns : List Int, xs = ns.map D.int ∧ ∀ ms : List Int, ms.Perm ns → R (.lst (ms.map D.int))) ∨ (∃ ts : List (List Int), xs = ts.map tI ∧ ∀ us : List (List Int), us.Perm ts → R (.lst (us.map tI))))
def sp_law_closed (A : Adr) : SpD := fun ds R _ => ∃ (ts : List (List Int)) (n : Nat), ds = [.lst (ts.map tI), .int n] ∧ ts.length ≤ 200 ∧ (2 ≤ n ∧ n ≤ 5) ∧ (∀ t ∈ ts, Tn n t) ∧ ∀ g, GrpOk n ts g → R (.tup (g.map tI))
/-! things within things -/
mutual
def okH (m : Nat) : D → Bool
  | .non => true
  | .bl _ => true
  | .int _ => true
  | .str _ => true
  | .tup ds => decide (ds.length ≤ m) && okHs m ds
  | .lst ds => decide (ds.length ≤ m) && okHs m ds
  | .dk ks ds => ks.isEmpty && ds.isEmpty
  | _ => false
def okHs (m : Nat) : List D → Bool
  | [] => true
  | d :: ds => okH m d && okHs m ds
end
def sp_law_turn_other (A : Adr) : SpD := fun ds R _ => ∃ x m, ds = [.st, x] ∧ okH m x = true ∧ 6 ≤ m ∧ m ≤ 300 ∧ ∀ d, okH (3 * m + 6) d = true → R d
def sx_law_other (A : Adr) : SpD := fun ds R _ => ∃ x m, ∃ n : Nat, ds = [.st, x, .int n] ∧ okH m x = true ∧ (2 ≤ n ∧ n ≤ 5) ∧ 6 ≤ m ∧ m ≤ 300 ∧ ∀ d, okH (3 * m + 6) d = true → R d
def sp_law_is_group (A : Adr) : SpD := fun ds R _ => ∃ x m, ∃ n : Nat, ds = [x, .int n] ∧ okH m x = true ∧ m ≤ 1000 ∧ (2 ≤ n ∧ n ≤ 5) ∧ ∀ b : Bool, (b = true ↔ IsGrp n x) → R (.bl b)
def sx_law_tried (A : Adr) : SpD := fun ds R _ => ∃ xs y, ds = [.lst xs, y] ∧ okT y = true ∧ (∀ d ∈ xs, okT d = true) ∧ xs.length ≤ 1000 ∧ madeOk xs y (fun _ => R (.str "told")) (R (.str "size")) (R (.str "turn"))
def sp_law_refused (A : Adr) : SpD := fun ds R _ => ∃ (ts : List (List Int)) (n : Nat), ds = [.st, .lst (ts.map tI), .int n] ∧ ts.length ≤ 100 ∧ (2 ≤ n ∧ n ≤ 5) ∧ (∀ t ∈ ts, Tn n t) ∧ R (.bl true)
end TC

set_option Elab.async false
set_option linter.all false
set_option maxRecDepth 100000
set_option maxHeartbeats 2000000
/-! enumerate(tuple); for a, b in a list of pairs; [.. for a, b in list of pairs]. -/
namespace TC
open PySem PySem.Spec PyProof.Rows L2
open AutoSeq1 (wpAny_loadPart')
theorem meets_enumerate_newT (l : Addr) (items : Array Value) (n : Nat) (dct : Option Addr) (sl : Array (Option Value)) :
    Meets (Builtin.«enumerate.__new__» ⟨[.type "enumerate", .ref l], []⟩) (fun _ R s => s.heap.get? l = some { cls := .type "tuple", dict := dct, data := .seq items n, slots := sl } ∧
      R (.ok (.ret (.ref (s.heap.push { cls := .type "tuple_iterator", data := .fields #[.ref l, .int 0 0] }).objs.size)))
        { s with heap := (s.heap.push { cls := .type "tuple_iterator", data := .fields #[.ref l, .int 0 0] }).push { cls := .type "enumerate", data := .fields #[.none, .bool false, .ref s.heap.objs.size, rawInt 0, .none, .none] } }) :=
  .of_wp fun prog w A R s h => by
    obtain ⟨hp, g, d, tk, os⟩ := s; obtain ⟨hl, h⟩ := h
    have hsub := sub_enumerate
    have hL : Heap.IsTuple (Shared.heap ⟨hp, g, d, tk, os⟩) l items := ⟨_, hl, rfl, n, rfl⟩
    wp_walk using wpAny_loadPart' hl
    refine wpAny_stack_any fun st => wpAny_pure ?_
    split
    · rename_i c _ _ _ _ _
      cases (c == Value.type "enumerate")
      · wp_walk using wpAny_loadPart' hl, wpAny_pyIter_tuple hL
        exact ⟨_, rfl, h⟩
      · wp_walk using wpAny_loadPart' hl, wpAny_pyIter_tuple hL
        exact ⟨_, rfl, h⟩
    · wp_walk using wpAny_loadPart' hl, wpAny_pyIter_tuple hL
      exact ⟨_, rfl, h⟩
section
variable {prog : Program} {w : World} {A : Around} {E : Value → Shared → Prop} {s : Shared}
theorem call_enumerate_tuple {l : Addr} {items : Array Value} {Q : Value → Shared → Prop} (hL : s.heap.IsTuple l items)
    (h : ∀ h', IsEnum h' (s.heap.objs.size + 1) s.heap.objs.size 0 .none → h'.IsTupleIter s.heap.objs.size l 0 → h'.objs.size = s.heap.objs.size + 2 →
      (∀ b o, s.heap.get? b = some o → h'.get? b = some o) → Q (.ref (s.heap.objs.size + 1)) { s with heap := h' }) :
    wpAny (model prog w) A (call (.type "enumerate") [.ref l]) Q E s := by
  obtain ⟨⟨c, dct, dt, sl⟩, hl, hc, n, hd⟩ := hL
  replace hc : c = .type "tuple" := hc
  replace hd : dt = .seq items n := hd
  subst hc hd
  refine callType_new F.called_enumerate (by decide) (F.typeCall_enumerate_1 _) (F.newCall_enumerate_1 _) (fun obj => F.args_object_init_2 obj _) F.entry_enumerate_new
    (meets_enumerate_newT l items n dct sl) ⟨hl, ?_⟩
  have hz : (s.heap.push { cls := .type "tuple_iterator", data := .fields #[.ref l, .int 0 0] }).objs.size = s.heap.objs.size + 1 := Heap.size_push ..
  show _ ∧ _
  rw [hz]
  have he : IsEnum ((s.heap.push { cls := .type "tuple_iterator", data := .fields #[.ref l, .int 0 0] }).push
      { cls := .type "enumerate", data := .fields #[.none, .bool false, .ref s.heap.objs.size, rawInt 0, .none, .none] }) (s.heap.objs.size + 1) s.heap.objs.size 0 .none := by
    have := Heap.get?_push_size (s.heap.push { cls := .type "tuple_iterator", data := .fields #[.ref l, .int 0 0] })
      (o := { cls := .type "enumerate", data := .fields #[.none, .bool false, .ref s.heap.objs.size, rawInt 0, .none, .none] }) rfl
    rw [hz] at this; exact this
  refine ⟨⟨_, he, rfl⟩, h _ he ⟨_, Heap.get?_push_of_some _ (Heap.get?_push_size _ rfl), rfl, rfl⟩ (by rw [Heap.size_push, hz]) fun b o x => Heap.get?_push_of_some _ (Heap.get?_push_of_some _ x)⟩
end
/-- the tuple at a, each item in a new pair -/
def IteT (K : PySem.W.Frag) (a : Addr) (xs : List V) : It :=
  ⟨fun i H => SqT K H a xs ∧ i < xs.length, fun i H v H' => ∃ T x, v = .ref T ∧ H T = none ∧ H' = upd H T (.tup [.int (i : Nat), x]) ∧ xs[i]? = some x, fun i H => SqT K H a xs ∧ xs.length ≤ i⟩
theorem turn_enumT {P : Program} {w : World} {K : PySem.W.Frag} {elts : List Expr} {kk : Nat} {tpos : Pos} (a e it : Addr) (xs : List V) :
    Turn P w K (.Tuple elts kk tpos) (IteT K a xs) [e, it] e (fun i h => (∃ old, IsEnum h e it ((i : Nat) : Int) old) ∧ h.IsTupleIter it a i ∧ e ≠ it ∧ a ≠ it ∧ a ≠ e) where
  mem := by simp
  obj := fun i h st b hb => by
    obtain ⟨⟨old, he⟩, ⟨o, ho, hc, hd⟩, _⟩ := st
    have e' : b = e ∨ b = it := by simpa using hb
    rcases e' with z | z
    · rw [z]; exact ⟨_, he, fun v q => nomatch q⟩
    · rw [z]; exact ⟨o, ho, fun v q => by rw [hd] at q; cases q⟩
  keep := fun i h h' st k => let ⟨⟨old, he⟩, hi, hne⟩ := st; ⟨⟨old, k e (by simp) _ he⟩, hi.at fun o q => k it (by simp) o q, hne⟩
  item := by
    intro X hP hw hK hc i pins s σ H E I hf st hg
    subst hP hw hK
    obtain ⟨⟨old, he⟩, hit, hne, ha1, ha2⟩ := st
    obtain ⟨hq, hlt⟩ := hg
    obtain ⟨its, rv, p, hz⟩ := I.tuple hq
    have hx : xs[i]? = some xs[i] := List.getElem?_eq_getElem hlt
    obtain ⟨u, hu, ru⟩ := rv.get hx
    have hel : e < s.heap.objs.size := Heap.lt_size he
    have hil : it < s.heap.objs.size := by obtain ⟨_, q, _⟩ := id hit; exact Heap.lt_size q
    have hsz0 : i < its.toArray.size := by
      have := rv.length
      simp
      omega
    refine wpAny_pyNext_enum_itemD (Draws.tuple (A := X.A.in1) (show X.A.in1.handled = none from I.ok.hd hc) it a ha1 its.toArray) he ⟨hit, p⟩ hsz0 hne (show e ∉ [it, a] from fun hm => by
      rcases List.mem_cons.mp hm with z | z
      · exact hne z
      · exact ha2 (List.mem_singleton.mp z).symm) fun x h' tk hP ho hst hT hsz hk => ?_
    have hxu : x = u := by
      have hP : its.toArray[i]? = some x := hP
      have : its[i]? = some x := by simpa using hP
      rw [hu] at this
      exact (Option.some.inj this).symm
    subst hxu
    refine ⟨_, rfl, wpAny_letOwnedTupleGo_enum (s := { s with heap := h', toks := tk + 1 }) ho fun h'' he' sb => ?_⟩
    have hT2 : h''.get? s.heap.objs.size = some { cls := .type "tuple", data := .seq #[.int i tk, x] } := (sb.2 _ (Nat.ne_of_gt hel)).trans hT
    have new : ObjOk X.prog X.w (upd H s.heap.objs.size (.tup [.int (i : Nat), xs[i]])) h'' s.heap.objs.size (.tup [.int (i : Nat), xs[i]]) :=
      ⟨by show 2 ≤ sizeLine; decide, [.int i tk, x], .cons ⟨_, rfl⟩ (.cons ru .nil), ⟨_, hT2, rfl, _, rfl⟩⟩
    have I1 : Inv X pins σ (upd H s.heap.objs.size (.tup [.int (i : Nat), xs[i]])) { s with heap := h'', toks := tk + 1 } :=
      I.turnedNew (ch := [e, it]) (fun b ob hb q => (sb.2 b (fun z => hb (by simp [z]))).trans (hk b ob (fun z => hb (by simp [z])) (fun z => hb (by simp [z])) q)) hf (Nat.le_refl _) new
    refine ⟨.ref s.heap.objs.size, _, I1, rfl, ⟨_, xs[i], rfl, I.hok.fresh (Nat.le_refl _), rfl, hx⟩, ⟨⟨x, ?_⟩, hst.1.at fun o q => (sb.2 it (Ne.symm hne)).trans q, hne, ha1, ha2⟩, fun b hb => ?_⟩
    · have e1 : ((i + 1 : Nat) : Int) = (i : Int) + 1 := by omega
      rw [e1]; exact he'
    · have hb' : b < s.heap.objs.size := by
        have e' : b = e ∨ b = it := by simpa using hb
        rcases e' with z | z
        · rw [z]; exact hel
        · rw [z]; exact hil
      rw [upd_ne (Nat.ne_of_lt hb')]
      exact (hf b hb).1
  done := by
    intro X hP hw hK hc i pins s σ H E I hf st hg
    subst hP hw hK
    obtain ⟨⟨old, he⟩, hit, hne, ha1, ha2⟩ := st
    obtain ⟨hq, hx⟩ := hg
    obtain ⟨its, rv, p, hz⟩ := I.tuple hq
    obtain ⟨f0, f1, f2, f3, f4, f5⟩ := hf it (by simp)
    have hl := rv.length
    unfold pyNext
    have hT : s.TypeIs (.ref e) "enumerate" := ⟨_, he, rfl⟩
    refine wpAny_bind (wpAny_attempt (wpAny_callSpecial?_slot (name := Str.ofString "__next__") hT F.slot_enumerate_next
      (wpAny_call_entry F.slot_enumerate_next hT F.entry_enumerate_next ?_ (F.args_enumerate_next_1 _))))
    show wpAny _ _ (field (.ref e) 2 >>= _) _ _ _
    refine wpAny_bind (wpAny_field he rfl (x := .ref it) rfl ?_)
    refine wpAny_bind (wpAny_nextOf_tuple_end (I.ok.hd hc) hit p (by simp; omega) fun h' x he' hx' => ?_)
    obtain ⟨o, ho, hc'⟩ := hx'
    refine wpAny_bind (wpAny_isInstance (T := "StopIteration") (b := true) ⟨o, ho, hc'⟩ isSubtype_stop ?_)
    exact wpAny_pure ⟨rfl, I.turned (t' := s.toks) (fun b o hb q => he' b o hb q) f0 f1 f3 f4 f5⟩
  self := fun A i s Q E st h => let ⟨⟨_, he⟩, _⟩ := st; wpAny_pyIter_enum he h
def iEnumT (K : PySem.W.Frag) (ta : TA) : TI := fun σ H R => ta σ H fun vs H1 => ∃ a xs, vs = [.ref a] ∧ ((SqL K H1 a xs ∧ R (Ite K a) H1) ∨ (SqT K H1 a xs ∧ R (IteT K a xs) H1))
theorem pi_enumT {X : Cx} {e : Expr} {ta : TA} {p pos tpos : Pos} {elts : List Expr} {kk : Nat} (hg : Gl X "enumerate") (hm : X.mg "enumerate" = none) (ha : PA X [e] ta) (hs : starEach [e] X.env = [(false, eval e X.env)] := by rfl) :
    PI X (.Tuple elts kk tpos) (.Call (.Name "enumerate" p) [e] [] pos) (iEnumT X.K ta) := by
  refine ⟨fun pins s σ H R I h => ?_⟩
  refine Call_ (ld_blt I hg hm boot_enumerate (PyProof.Rows.callWith_type1 (thn (ha.run pos pins s σ H _ I h) fun us s1 ⟨vs, H1, I1, r1, q1⟩ => ?_) hs rfl))
  obtain ⟨a, xs, ex, q1⟩ := q1
  subst ex
  cases r1 with
  | cons r rr =>
    cases rr
    cases r
    have fp : ∀ {H2 : Hp} {s2 : Shared}, Inv X pins σ H2 s2 → True := fun _ => trivial
    rcases q1 with ⟨hq, q⟩ | ⟨hq, q⟩
    · obtain ⟨its, rv, p', hz⟩ := I1.list hq
      refine call_enumerate_list p'.isList fun h' he hit hsz hk => wpAny_pyIter_enum he ?_
      have I2 : Inv X pins σ H1 { s1 with heap := h' } := I1.kept (t' := s1.toks) hk
      refine ⟨s1.heap.objs.size + 1, [s1.heap.objs.size + 1, s1.heap.objs.size], _, _, H1, rfl, I2, turn_enum a (s1.heap.objs.size + 1) s1.heap.objs.size, ⟨⟨.none, he⟩, hit, Nat.succ_ne_self _⟩, fun b hb => ?_, q⟩
      have e' : b = s1.heap.objs.size + 1 ∨ b = s1.heap.objs.size := by simpa using hb
      have hle : s1.heap.objs.size ≤ b := by
        rcases e' with z | z
        · rw [z]; exact Nat.le_add_right _ _
        · rw [z]; exact Nat.le_refl _
      exact I1.fpOk hle (I1.hok.fresh hle)
    · obtain ⟨its, rv, p', hz⟩ := I1.tuple hq
      have hal : a < s1.heap.objs.size := by obtain ⟨o, ho, _⟩ := id p'; exact Heap.lt_size ho
      refine call_enumerate_tuple p' fun h' he hit hsz hk => wpAny_pyIter_enum he ?_
      have I2 : Inv X pins σ H1 { s1 with heap := h' } := I1.kept (t' := s1.toks) hk
      refine ⟨s1.heap.objs.size + 1, [s1.heap.objs.size + 1, s1.heap.objs.size], _, _, H1, rfl, I2, turn_enumT a (s1.heap.objs.size + 1) s1.heap.objs.size xs, ⟨⟨.none, he⟩, hit, Nat.succ_ne_self _, Nat.ne_of_lt hal, Nat.ne_of_lt (Nat.lt_succ_of_lt hal)⟩, fun b hb => ?_, q⟩
      have e' : b = s1.heap.objs.size + 1 ∨ b = s1.heap.objs.size := by simpa using hb
      have hle : s1.heap.objs.size ≤ b := by
        rcases e' with z | z
        · rw [z]; exact Nat.le_add_right _ _
        · rw [z]; exact Nat.le_refl _
      exact I1.fpOk hle (I1.hok.fresh hle)
theorem wk_enumT {K : PySem.W.Frag} {a : Addr} {xs : List V} : WkP (IteT K a xs) ((enumV xs.length).zip xs) (fun H => SqT K H a xs) where
  go := fun i H h l => by
    unfold enumV at l
    rw [List.length_zip, List.length_map, List.length_range, Nat.min_self] at l
    exact ⟨h, l⟩
  yl := fun i H x H' h l y => by
    unfold enumV at l
    rw [List.length_zip, List.length_map, List.length_range, Nat.min_self] at l
    obtain ⟨T, v, h1, h2, h3, h4⟩ := y
    refine ⟨T, _, (.int (i : Nat), v), ?_, h1, h2, .inl rfl, h3⟩
    rw [List.getElem?_zip_eq_some]
    refine ⟨?_, h4⟩
    unfold enumV
    rw [List.getElem?_map, List.getElem?_range l]
    rfl
  stop := fun i H h e => by
    unfold enumV at e
    rw [List.length_zip, List.length_map, List.length_range, Nat.min_self] at e
    exact ⟨h, by omega⟩
def wEnumS (was : DA) : DPr := fun Γ μ R Z => was Γ μ (fun ds μ1 => match ds with
  | [.lst xs] => R (enumD xs) μ1
  | [.tup xs] => R (enumD xs) μ1
  | _ => False) Z
section
variable {X : Cx} {C : Cfg} {W : WX} {a : Expr} {was : DA} {elts : List Expr} {kk : Nat} {tpos p pos : Pos}
theorem di_enumS (hK : X.K = C.K) (hg : Gl X "enumerate") (hm : X.mg "enumerate" = none) (ha : DAs X C W [a] was) (hs : starEach [a] X.env = [(false, eval a X.env)] := by rfl) :
    DIP X C W (.Tuple elts kk tpos) (.Call (.Name "enumerate" p) [a] [] pos) (wEnumS was) := PI.imp (pi_enumT hg hm ha hs) fun σ H Q ⟨α, Γ, μ, R, Z, r, w, k, z⟩ => by
  rw [hK]
  refine ⟨α, Γ, μ, _, Z, r, w, fun ds vs α1 μ1 H1 w1 r1 m1 i1 => ?_, z⟩
  split at w1
  · rename_i xs
    obtain ⟨v, rfl, h⟩ := iss1 i1
    cases h with
    | @lst a xs' _ h q =>
      have l := q.length
      refine ⟨a, xs', rfl, .inl ⟨SqL.of (gk_ex _ _ h), k _ _ _ _ _ α1 μ1 H1 w1 r1 m1 ?_ ?_ wk_enum fun α2 μ2 H2 m2 => SqL.of (gk_ex _ _ (m2.ex _ _ h))⟩⟩
      · unfold enumD
        rw [List.map_fst_zip (by simp), ← l]
        exact enum_is _
      · unfold enumD
        rw [List.map_snd_zip (by simp)]
        exact q
  · rename_i xs
    obtain ⟨v, rfl, h⟩ := iss1 i1
    cases h with
    | @tup a xs' _ h q =>
      have l := q.length
      refine ⟨a, xs', rfl, .inr ⟨gk_ex.t h.sq, k _ _ _ _ _ α1 μ1 H1 w1 r1 m1 ?_ ?_ wk_enumT fun α2 μ2 H2 m2 => gk_ex.t (m2.ex.t h.sq)⟩⟩
      · unfold enumD
        rw [List.map_fst_zip (by simp), ← l]
        exact enum_is _
      · unfold enumD
        rw [List.map_snd_zip (by simp)]
        exact q
  · exact w1.elim
/-! ### for a, b in a list of pairs -/
abbrev tfP (i j : Nat) : D → Gam → Option Gam := fun d Γ => match d with
  | .tup [a, b] => some ((Γ.set i (some a)).set j (some b))
  | _ => none
theorem pair_go {i j : Nat} {α : List Addr} {σ : L2.St} {H : Hp} {Γ Γ' : Gam} {μ : Mem} {d : D} {v : V} {Q : L2.St → Hp → Prop} (r : Rl C α σ H Γ μ) (is : Is C.K C.S α (gk C α μ H) d v) (e : tfP i j d Γ = some Γ') (k : ∀ x y, Rl C α ((σ.set i (some x)).set j (some y)) H Γ' μ → Q ((σ.set i (some x)).set j (some y)) H) : gPair C.K i j v σ H Q := by
  cases d with
  | tup ds =>
    match ds, e, is with
    | [a, b], e, is =>
      cases is with
      | @tup T xs _ h q =>
        obtain ⟨x, y, rfl, i1, i2⟩ := iss2 q
        have e : some ((Γ.set i (some a)).set j (some b)) = some Γ' := e
        cases e
        exact ⟨T, [x, y], rfl, gk_ex.t h.sq, rfl, x, [y], rfl, y, [], rfl, rfl, k x y ((r.setv i1).setv i2)⟩
    | [], e, _ => cases e
    | [_], e, _ => cases e
    | _ :: _ :: _ :: _, e, _ => cases e
  | _ => cases e
theorem dg_pair {tg : Expr} {i j : Nat} (hK : X.K = C.K) (h : PG X tg (gPair X.K i j)) : DG X C tg (gPair X.K i j) (tfP i j) := ⟨h, fun α σ H Γ μ d v Q Γ' r is e k => by
  rw [hK]
  exact pair_go r is e fun x y r' => k _ r'⟩
theorem own_pair {i j : Nat} (hK : X.K = C.K) (hij : i ≠ j) : OwnG C (gPair X.K i j) (tfP i j) [i, j] := ⟨fun α σ H Γ μ d v Q Γ' r is e k => by
  rw [hK]
  refine pair_go r is e fun x y r' => k _ r' ?_
  have hji : j ≠ i := Ne.symm hij
  show List.set (List.set (List.set (List.set (List.set (List.set σ j none) i none) i (some x)) j (some y)) j none) i none = List.set (List.set σ j none) i none
  rw [List.set_set, List.set_set, List.set_comm none none hji, List.set_comm none none hji]
  simp [List.set_set, List.set_comm _ _ hij]⟩
/-- a, b, c = x, y, z by way of a tuple -/
def wPar3T (i j l : Nat) (wa : DA) : DS := fun Γ μ P => wTup wa Γ μ (fun d μ' => match d with
  | .tup [a, b, c] => P.nx (((Γ.set i (some a)).set j (some b)).set l (some c)) μ'
  | _ => False) P.rz
theorem ds_par3T {st : Stmt} {i j l : Nat} {wa : DA} (hK : X.K = C.K) (h : PS X st (tAsg (canE C W (wTup wa)) (gTup X.K 3 (gCons (gName i) (gCons (gName j) (gCons (gName l) gNil)))))) : DSt X C W st (wPar3T i j l wa) := h.imp fun D σ H ⟨α, Γ, μ, P, r, w, n, t, b, c, z⟩ => by
  rw [hK]
  refine ⟨α, Γ, μ, _, _, r, w, fun d v α' μ' H' w' r' m' i' => ?_, z⟩
  cases d with
  | tup ds =>
    match ds, w', i' with
    | [x, y, q], w', i' =>
      cases i' with
      | @tup T xs _ h hq =>
        cases hq with
        | cons i1 hq =>
          obtain ⟨u2, u3, rfl, i2, i3⟩ := iss2 hq
          exact ⟨T, _, rfl, gk_ex.t h.sq, rfl, _, _, rfl, u2, [u3], rfl, u3, [], rfl, rfl, n α' _ μ' _ H' w' (((r'.setv i1).setv i2).setv i3) m'⟩
    | [], w', _ => exact w'.elim
    | [_], w', _ => exact w'.elim
    | [_, _], w', _ => exact w'.elim
    | _ :: _ :: _ :: _ :: _, w', _ => exact w'.elim
  | _ => exact w'.elim
end
end TC

set_option Elab.async false
set_option linter.all false
set_option maxRecDepth 100000
set_option maxHeartbeats 2000000
/-! Words: what the defs are to do, at the data level. -/
namespace TC
open PySem PySem.Spec PyProof.Rows L2
abbrev Prs := List ((Int × Int) × List Int)
def prsOf : Nat → List (List Int) → Prs
  | _, [] => []
  | i, t :: ts => (((i : Int), -1), backL t) :: (((i : Int), 1), t) :: prsOf (i + 1) ts
def pD (p : Int × Int) : D := .tup [.int p.1, .int p.2]
def prPD (p : (Int × Int) × List Int) : D := .tup [pD p.1, tI p.2]
def deed (P : Prs) (i : Nat) : List Int := (P.getD i ((0, 0), [])).2
def pairI (P : Prs) (i : Nat) : Int × Int := (P.getD i ((0, 0), [])).1
def wD (P : Prs) (w : List Nat) : List D := w.map fun i => pD (pairI P i)
def valid (P : Prs) (w : List Nat) : Prop := ∀ i ∈ w, i < P.length
/-- from x by the word's deeds -/
def evx (P : Prs) : List Int → List Nat → List Int
  | x, [] => x
  | x, i :: w => evx P (putL x (deed P i)) w
def wlt : List Nat → List Nat → Prop
  | x :: xs, y :: ys => x < y ∨ (x = y ∧ wlt xs ys)
  | _, _ => False
def wle (v w : List Nat) : Prop := v.length < w.length ∨ (v.length = w.length ∧ (v = w ∨ wlt v w))
/-- the least of the shortest words from x to g -/
def LSx (P : Prs) (x g : List Int) (w : List Nat) : Prop := valid P w ∧ evx P x w = g ∧ ∀ v, valid P v → evx P x v = g → wle w v
def WordsLS (n : Nat) (P : Prs) (ks : List (List Int)) (ws : List (List D)) : Prop := ks.Nodup ∧ ws.length = ks.length ∧ (∀ g ∈ ks, ∃ w, LSx P (rgL n) g w ∧ ws.getD (ks.idxOf g) [] = wD P w) ∧ ∀ w, valid P w → evx P (rgL n) w ∈ ks
def wordOut (P : Prs) (n : Nat) (g : List Int) (R : D → Prop) : Prop := (∀ w, LSx P (rgL n) g w → R (.lst (wD P w))) ∧ ((∀ w, valid P w → evx P (rgL n) w ≠ g) → R .non)
def sp_letters_of (A : Adr) : SpD := fun ds R _ => ∃ x ts n, ds = [x] ∧ isRow x ts ∧ ts.length ≤ 1000 ∧ (∀ t ∈ ts, Tn n t) ∧ R (.dt (lettersF 0 ts ([], [])).1 (lettersF 0 ts ([], [])).2)
def sp_words_of (A : Adr) : SpD := fun ds R _ => ∃ x ts, ∃ n : Nat, ds = [x, .int n] ∧ isRow x ts ∧ ts.length ≤ 200 ∧ (2 ≤ n ∧ n ≤ 5) ∧ (∀ t ∈ ts, Tn n t) ∧ ∀ ks ws, WordsLS n (prsOf 0 ts) ks ws → R (.dt ks (wsD ws))
def wordOk (xs : List D) (y : D) (R : D → Prop) (ZT : Prop) : Prop :=
  ((∃ d ∈ xs, sizeOf d = 0) → ZT) ∧ ((∀ d ∈ xs, sizeOf d ≠ 0) → sizeOf y = 0 → ZT) ∧
  ∀ (ts : List (List Int)) (g : List Int), xs = ts.map tI → y = tI g → tOk g = true → (∀ t ∈ ts, tOk t = true) → ((∃ t ∈ ts, t.length ≠ g.length) → ZT) ∧ ((∀ t ∈ ts, t.length = g.length) → wordOut (prsOf 0 ts) g.length g R)
def sp_word (A : Adr) : SpD := fun ds R Z => ∃ x y, ds = [x, y] ∧ okD x = true ∧ okT y = true ∧ match seqD x with
  | some xs => (∀ d ∈ xs, okT d = true) ∧ xs.length ≤ 200 ∧ wordOk xs y R (Z A.c_NoTurn)
  | none => Z A.c_NoTurn
def sp_law_pairs (A : Adr) : SpD := fun ds R _ => ∃ ts n, ds = [.lst (ts.map tI)] ∧ ts.length ≤ 200 ∧ (∀ t ∈ ts, Tn n t) ∧ R (.lst ((prsOf 0 ts).map prPD))
/-- how far it is from x to g -/
def Dist (P : Prs) (g x : List Int) (d : Nat) : Prop := (∃ w, valid P w ∧ evx P x w = g ∧ w.length = d) ∧ ∀ v, valid P v → evx P x v = g → d ≤ v.length
def FarOk (P : Prs) (g : List Int) (ks : List (List Int)) (ds : List D) : Prop := ks.length = ds.length ∧ (∀ x ∈ ks, ∃ d : Nat, getK ks ds x = some (.int d) ∧ Dist P g x d ∧ d ≤ 1000) ∧ ∀ x n, Tn n x → n = g.length → (∃ w, valid P w ∧ evx P x w = g) → x ∈ ks
def sp_law_far (A : Adr) : SpD := fun ds R _ => ∃ (P : Prs) (g : List Int) (n : Nat), ds = [.lst (P.map prPD), tI g] ∧ P.length ≤ 400 ∧ (∀ p ∈ P, Tn n p.2) ∧ Tn n g ∧ ∀ ks ds, FarOk P g ks ds → R (.dt ks ds)
def sp_law_word_due (A : Adr) : SpD := fun ds R _ => ∃ ts g n, ds = [.lst (ts.map tI), tI g] ∧ ts.length ≤ 200 ∧ (∀ t ∈ ts, Tn n t) ∧ Tn n g ∧ wordOut (prsOf 0 ts) n g R
def sp_law_goal (A : Adr) : SpD := fun ds R _ => ∃ ts, ∃ n : Nat, ds = [.st, .lst (ts.map tI), .int n] ∧ ts ≠ [] ∧ ts.length ≤ 200 ∧ (2 ≤ n ∧ n ≤ 5) ∧ (∀ t ∈ ts, Tn n t) ∧ ∀ g, Tn n g → R (tI g)
def s4_law_exact (A : Adr) : SpD := fun ds R _ => ∃ fo, ds = [fo, fo] ∧ (fo = .non ∨ ∃ ps : List (Int × Int), fo = .lst (ps.map pD) ∧ ps.length ≤ 1000) ∧ R (.bl true)
end TC
namespace TC
def s4_law_tried (A : Adr) : SpD := fun ds R _ => ∃ xs y, ds = [.lst xs, y] ∧ okT y = true ∧ (∀ d ∈ xs, okT d = true) ∧ xs.length ≤ 200 ∧ wordOk xs y (fun _ => R (.str "told")) (R (.str "turn"))
end TC

set_option Elab.async false
set_option linter.all false
set_option maxRecDepth 100000
set_option maxHeartbeats 2000000
/-! A dict made by a comprehension, its keys tuples of numbers. -/
namespace TC
open PySem PySem.Spec PyProof.Rows L2
section
variable {X : Cx} {pins : List (Addr × Obj)} {σ : L2.St} {H : Hp} {s : Shared}
theorem put_here {E : Value → Shared → Prop} {T : Addr} {y z : V} {u r : Value} {N : Hp → Prop} {Q : Unit → Shared → Prop} (room : X.A.units < cLine) (I : Inv X pins σ H s) (ry : RelV y u) (rz : RelV z r) (w : rDSetI X.K (.ref T) y z H N) (go : ∀ (H' : Hp) (s' : Shared), Inv X pins σ H' s' → N H' → Q () s') : wpAny (model X.prog X.w) X.A (dictSet T u r) Q E s := by
  obtain ⟨a, m, b, k, ea, eb, ⟨d0, d⟩, tk, lt, q⟩ := w
  cases ea
  cases eb
  cases ry
  obtain ⟨le, ns, dd⟩ := dict_of I d
  refine wpAny_dictSet_heap (hsz := le) (knd := tupI X.prog X.w) room (key_int I tk) dd fun hN made side => ?_
  obtain ⟨ob, es, ep, at_, p1, p2, p3, _, p5⟩ := made
  have sz : (storedH m k b r).length ≤ sizeLine := by
    have := len_stored m k b r
    omega
  exact go _ _ (d_write I (by rw [d0]; exact True.intro) side ⟨ob, at_⟩ (dictI_ok ⟨⟨sz, ns⟩, ob, es, ep, at_, p1, p2, p3, p5⟩)) (q r rz)
/-- {k: v for target in iter if ..} -/
def tDcI (K : PySem.W.Frag) (wi : TI) (g : TG) (tt : TT) (tk tv : TE) (vs : List Nat) : TE := fun σ H Q => wi σ H fun J H1 => ∀ T, H1 T = none → ∃ W : Nat → Nat → Hp → Prop, (∃ m, W 0 m (upd H1 T (.ext (DictI T [])))) ∧ ∀ i m H, W i m H →
  (J.stop i H ∧ Q (.ref T) H) ∨ (J.go i H ∧ ∃ Nx : Hp → Prop, (∀ H', Nx H' → ∃ m', m' < m ∧ W (i + 1) m' H') ∧ ∀ x H', J.yld i H x H' → g x (L2.wipe σ vs) H' fun σ2 H2 => L2.wipe σ2 vs = L2.wipe σ vs ∧ tt σ2 H2 fun b H3 => if b = true then tk σ2 H3 fun y H4 => tv σ2 H4 fun z H5 => rDSetI K (.ref T) y z H5 Nx else Nx H3)
variable {kx vx tg iter : Expr} {ifs : List Expr} {scope : Scope} {own : List (Str × Nat)} {pos pos' : Pos} {wi : TI} {g : TG} {tt : TT} {tk tv : TE}
theorem dc_run {Q : VK} {use : Option (Value → Sem Unit)} {Qf : Value → Shared → Prop} (room : X.A.units < cLine) (calm : X.calm = true) (nd : X.N.Nodup) (I : Inv X pins σ H s) (hi : PI X tg iter wi) (ok : BlkOk X.N X.env.scope scope own)
    (hg : ∀ (t : Shared) (H : Hp) (L : Addr) (cl : List (Str × Addr)) (fp : List Addr), PG (X.blk t H scope (compEnvC scope cl L X.env) fp) tg g) (ht : ∀ (t : Shared) (H : Hp) (L : Addr) (cl : List (Str × Addr)) (fp : List Addr), PTs (X.blk t H scope (compEnvC scope cl L X.env) fp) ifs tt)
    (hk : ∀ (t : Shared) (H : Hp) (L : Addr) (cl : List (Str × Addr)) (fp : List Addr), PE (X.blk t H scope (compEnvC scope cl L X.env) fp) kx tk)
    (hv : ∀ (t : Shared) (H : Hp) (L : Addr) (cl : List (Str × Addr)) (fp : List Addr), PE (X.blk t H scope (compEnvC scope cl L X.env) fp) vx tv) (fold : ∀ x, foldedSetIterable iter X.env x = pure x)
    (w : tDcI X.K wi g tt tk tv (own.map (·.2)) σ H Q)
    (post : ∀ T L t m H', Inv X pins σ H' t → Q (.ref T) H' → t.heap.Ns L m → FpOk X pins H' L → compPost (model X.prog X.w) X.A X.xe use Qf (.ref T) L (.ok .next) t) :
    wpAny (model X.prog X.w) X.A (comprehension (.DictComp kx vx [⟨tg, iter, ifs, 0⟩] scope pos) scope X.env pos' newDict false (eval iter X.env) use) Qf X.xe s := by
  have clo : ∀ y ∈ scope.names, y.2 = .free → ∃ c, X.env.cells.lookup y.1 = some c := fun y hy e => by
    have k := ok.free y hy e
    exact I.ok.has _ (k.elim .inl .inr)
  refine wpAny_comprehension_free (use := use) rfl fold (closure_ok clo) ok.kind (fun y hy e => by rw [ok.uniq y hy, e]) (thn (hi.run pins s σ H _ I w) fun xv s1 hx => thn hx fun itv s2 h2 => ?_)
  obtain ⟨it, fp, tn, J, Hi, rfl, Ii, Tn, sti, fpi, q⟩ := h2
  refine wpAny_newObj_type (newEnv_comp ?_)
  have free := Ii.hok.fresh (Nat.le_refl s2.heap.objs.size)
  generalize hT : s2.heap.objs.size = T at free
  obtain ⟨W, ⟨m0, w0⟩, turn⟩ := q T free
  generalize hs3 : ({ s2 with heap := s2.heap.push { cls := .type "dict", data := .dict #[] } } : Shared) = s3
  have I3 : Inv X pins σ (upd Hi T (.ext (DictI T []))) s3 := by
    have e := dictI_empty s2.heap Ii.big
    rw [hT] at e
    rw [← hs3]
    exact Ii.laid (a := T) (o := .ext (DictI T [])) (t' := s2.toks) (fun b o e => Heap.get?_push_of_some _ e) (Nat.le_of_eq hT) (dictI_ok e)
  have e3 : s3.heap = s2.heap.push { cls := .type "dict", data := .dict #[] } := by rw [← hs3]
  have below : ∀ b ∈ fp, b < s2.heap.objs.size := fun b hb => let ⟨o, e, _⟩ := Tn.obj _ _ sti b hb; Heap.lt_size e
  generalize hH3 : upd Hi T (.ext (DictI T [])) = H3 at I3 w0
  have fp3 : ∀ b ∈ fp, FpOk X pins H3 b ∧ b < s3.heap.objs.size := fun b hb => by
    have lt := below b hb
    refine ⟨⟨?_, (fpi b hb).2⟩, by rw [e3, Heap.size_push]; exact Nat.lt_succ_of_lt lt⟩
    rw [← hH3, upd_ne (show b ≠ T by rw [← hT]; exact Nat.ne_of_lt lt)]
    exact (fpi b hb).1
  have st3 : tn 0 s3.heap := Tn.keep _ _ _ sti fun b _ o e => by rw [e3]; exact Heap.get?_push_of_some _ e
  have I4 := block_start I3 ok nd fp3
  have pg := hg s3 H3 s3.heap.objs.size (cellsFrom (s3.heap.objs.size + 1) scope.names (cloFrom X.env.cells scope.names [])) fp
  have pt := ht s3 H3 s3.heap.objs.size (cellsFrom (s3.heap.objs.size + 1) scope.names (cloFrom X.env.cells scope.names [])) fp
  have pk := hk s3 H3 s3.heap.objs.size (cellsFrom (s3.heap.objs.size + 1) scope.names (cloFrom X.env.cells scope.names [])) fp
  have pv := hv s3 H3 s3.heap.objs.size (cellsFrom (s3.heap.objs.size + 1) scope.names (cloFrom X.env.cells scope.names [])) fp
  show codeAny _ _ (.compStart (.DictComp kx vx [⟨tg, iter, ifs, 0⟩] scope pos) 0 (.ref it) (.ref T) (compEnvC scope (cellsFrom (s3.heap.objs.size + 1) scope.names (cloFrom X.env.cells scope.names [])) s3.heap.objs.size X.env)) (compPost (model X.prog X.w) X.A X.xe use Qf (.ref T) s3.heap.objs.size) { s3 with heap := pushCells (s3.heap.push { cls := .type "dict", data := .dict #[] }) scope.names }
  have none3 : ∀ b ∈ fp, H3 b = none := fun b hb => (fp3 b hb).1.1
  generalize hce : compEnvC scope (cellsFrom (s3.heap.objs.size + 1) scope.names (cloFrom X.env.cells scope.names [])) s3.heap.objs.size X.env = ce at I4 pg pt pk pv ⊢
  have loc : ce.locals = s3.heap.objs.size := by rw [← hce]; rfl
  generalize hs4 : ({ s3 with heap := pushCells (s3.heap.push { cls := .type "dict", data := .dict #[] }) scope.names } : Shared) = s4 at I4 ⊢
  have st4 : tn 0 s4.heap := Tn.keep _ _ _ st3 fun b _ o e => by rw [← hs4]; exact pushCells_keeps _ _ _ _ (Heap.get?_push_of_some _ e)
  have still : ∀ {τ : L2.St} {G : Hp} {t : Shared}, Inv (X.blk s3 H3 scope ce fp) [] τ G t → (∀ b ∈ fp, G b = none) → ∀ b ∈ fp, FpOk (X.blk s3 H3 scope ce fp) [] G b := fun {τ G t} J' hn b hb => by
    have x := J'.ok.exf b hb
    refine ⟨hn b hb, x.1, J'.ok.exfs b hb, .inl hb, fun y c e => x.2 y c e, fun p hp => ?_⟩
    exact absurd (show p ∈ ([] : List (Addr × Obj)) ++ [] from hp) (by simp)
  have loop : codeAny (model X.prog X.w) X.A (.compLoop (.DictComp kx vx [⟨tg, iter, ifs, 0⟩] scope pos) 0 (.ref it) (.ref T) ce) (compPost (model X.prog X.w) X.A X.xe use Qf (.ref T) s3.heap.objs.size) s4 := by
    refine compLoop_anyD (fun n t => ∃ i G, Inv (X.blk s3 H3 scope ce fp) [] (L2.wipe σ (own.map (·.2))) G t ∧ tn i t.heap ∧ (∀ b ∈ fp, G b = none) ∧ W i n G) ?_ m0 ⟨0, H3, I4, st4, none3, w0⟩
    rintro n s5 ⟨i, H5, I5, st5, none5, w5⟩
    rcases turn i n H5 w5 with ⟨stop, qq⟩ | ⟨go, Nx, less, step⟩
    · refine thnF (Tn.done (X.blk s3 H3 scope ce fp) rfl rfl rfl calm i [] s5 _ H5 (fun _ _ => False) I5 (still I5 none5) st5 stop) fun r s6 ⟨hr, I6⟩ => ?_
      subst hr
      have I7 : Inv X pins σ H5 s6 := I3.call' (ch := fp) I6.os I6.base I6.hok I6.bare fun b hb => by
        have x := (fp3 b hb).1.2
        exact ⟨x.2.2.1, x.1, x.2.2.2.1, x.2.2.2.2⟩
      have nL : H5 s3.heap.objs.size = none := by
        have z : H5 ce.locals = none := I6.free
        rwa [loc] at z
      obtain ⟨m, hn, _⟩ := I6.loc
      have hn : s6.heap.Ns ce.locals m := hn
      rw [loc] at hn
      exact post T s3.heap.objs.size s6 m H5 I7 qq hn (I3.fpOk (Nat.le_refl _) nL)
    · refine thnF (Tn.item (X.blk s3 H3 scope ce fp) rfl rfl rfl calm i [] s5 _ H5 (fun _ _ => False) I5 (still I5 none5) st5 go) fun r s6 ⟨u, hr, h6⟩ => ?_
      subst hr
      refine thnF h6 fun _ s7 ⟨x, H7, I7, r7, y7, st7, none7⟩ => ?_
      have J7 := I7.pinned (still I7 none7) (Tn.obj _ _ st7)
      refine thnF (pg.run _ s7 _ H7 x u _ J7 r7 (step x H7 y7)) fun _ s8 ⟨σ8, H8, I8, wip, q8⟩ => ?_
      refine thnF (pt.run _ s8 σ8 H8 _ I8 q8) fun b s9 ⟨H9, I9, q9⟩ => ?_
      have fin : ∀ {t : Shared} {G : Hp}, Inv (X.blk s3 H3 scope ce fp) ([] ++ pinsAt fp s7.heap) σ8 G t → Nx G → ∃ m, m < n ∧ ∃ i G, Inv (X.blk s3 H3 scope ce fp) [] (L2.wipe σ (own.map (·.2))) G t ∧ tn i t.heap ∧ (∀ b ∈ fp, G b = none) ∧ W i m G := fun {t G} J' nx => by
        obtain ⟨m', hm, w'⟩ := less G nx
        have pinned : ∀ b ∈ fp, ∀ o, s7.heap.get? b = some o → t.heap.get? b = some o ∧ G b = none := fun b hb o e => by
          have z := J'.pin (b, o) (List.mem_append_right _ (List.mem_append_right _ (mem_pinsAt hb e)))
          exact ⟨z.1, z.2.1⟩
        have len : (L2.wipe σ (own.map (·.2))).length = σ8.length := by rw [← wip, L2.wipe_length]
        refine ⟨m', hm, i + 1, G, (J'.unpinned (pins := [])).weak len (fun j v e => ?_), Tn.keep _ _ _ st7 fun b hb o e => (pinned b hb o e).1, fun b hb => ?_, w'⟩
        · rw [← wip] at e
          exact (wipe_some e).1
        · obtain ⟨o, e, _⟩ := Tn.obj _ _ st7 b hb
          exact (pinned b hb o e).2
      cases b with
      | false =>
        rw [if_neg (by decide)] at q9 ⊢
        exact fin I9 q9
      | true =>
        rw [if_pos rfl] at q9 ⊢
        refine thnF (pk.run _ s9 σ8 H9 _ I9 q9) fun kv s10 ⟨yk, H10, I10, r10, q10⟩ => ?_
        refine thnF (pv.run _ s10 σ8 H10 _ I10 q10) fun vv s11 ⟨yv, H11, I11, r11, q11⟩ => ?_
        exact put_here (X := X.blk s3 H3 scope ce fp) room I11 r10 r11 q11 fun G t J' nx => fin J' nx
  exact codeAny_compStart_dict loop (Tn.self X.A 0 _ _ _ st4 loop)
theorem pe_dcI (room : X.A.units < cLine) (calm : X.calm = true) (nd : X.N.Nodup) (hi : PI X tg iter wi) (ok : BlkOk X.N X.env.scope scope own)
    (hg : ∀ (t : Shared) (H : Hp) (L : Addr) (cl : List (Str × Addr)) (fp : List Addr), PG (X.blk t H scope (compEnvC scope cl L X.env) fp) tg g) (ht : ∀ (t : Shared) (H : Hp) (L : Addr) (cl : List (Str × Addr)) (fp : List Addr), PTs (X.blk t H scope (compEnvC scope cl L X.env) fp) ifs tt)
    (hk : ∀ (t : Shared) (H : Hp) (L : Addr) (cl : List (Str × Addr)) (fp : List Addr), PE (X.blk t H scope (compEnvC scope cl L X.env) fp) kx tk)
    (hv : ∀ (t : Shared) (H : Hp) (L : Addr) (cl : List (Str × Addr)) (fp : List Addr), PE (X.blk t H scope (compEnvC scope cl L X.env) fp) vx tv) (fold : ∀ x, foldedSetIterable iter X.env x = pure x := by intro _; rfl) :
    PE X (.DictComp kx vx [⟨tg, iter, ifs, 0⟩] scope pos) (tDcI X.K wi g tt tk tv (own.map (·.2))) := by
  refine ⟨fun pins s σ H Q I w => ?_⟩
  rw [arm_eval_DictComp]
  refine dc_run room calm nd I hi ok hg ht hk hv fold w fun T L t m H' J' q hn f => ⟨m, hn, fun h'' sb => ?_⟩
  exact ⟨.ref T, H', J'.turned (t' := t.toks) (fun b o hb e => (sb.2 b hb).trans e) f.1 f.2.1 f.2.2.2.1 f.2.2.2.2.1 f.2.2.2.2.2, rfl, q⟩
end
end TC

set_option Elab.async false
set_option linter.all false
set_option maxRecDepth 100000
set_option maxHeartbeats 2000000
namespace TC
open PySem PySem.Spec PyProof.Rows L2
section
variable {J : It} {xs : List V} {G : Hp → Prop}
theorem dc_wk {K : PySem.W.Frag} (k : Wk J xs G) {g : TG} {tt : TT} {tk tv : TE} {vs : List Nat} {σ : L2.St} {H1 : Hp} {T : Addr} {Qd : Hp → Prop} (Pv : Nat → Hp → Prop) (h0 : Pv 0 (upd H1 T (.ext (DictI T [])))) (hl : ∀ i H, Pv i H → G H)
    (hs : ∀ i x H, xs[i]? = some x → Pv i H → g x (L2.wipe σ vs) H fun σ2 H2 => L2.wipe σ2 vs = L2.wipe σ vs ∧ tt σ2 H2 fun b H3 => if b = true then tk σ2 H3 fun y H4 => tv σ2 H4 fun z H5 => rDSetI K (.ref T) y z H5 (Pv (i + 1)) else Pv (i + 1) H3) (hd : ∀ H, Pv xs.length H → Qd H) :
    ∃ W : Nat → Nat → Hp → Prop, (∃ m, W 0 m (upd H1 T (.ext (DictI T [])))) ∧ ∀ i m H, W i m H →
      (J.stop i H ∧ Qd H) ∨ (J.go i H ∧ ∃ Nx : Hp → Prop, (∀ H', Nx H' → ∃ m', m' < m ∧ W (i + 1) m' H') ∧ ∀ x H', J.yld i H x H' → g x (L2.wipe σ vs) H' fun σ2 H2 => L2.wipe σ2 vs = L2.wipe σ vs ∧ tt σ2 H2 fun b H3 => if b = true then tk σ2 H3 fun y H4 => tv σ2 H4 fun z H5 => rDSetI K (.ref T) y z H5 Nx else Nx H3) := by
  refine ⟨fun i m H => m = xs.length - i ∧ i ≤ xs.length ∧ Pv i H, ⟨xs.length, by simp, Nat.zero_le _, h0⟩, ?_⟩
  rintro i m H ⟨rfl, hi, p⟩
  have q := hl i H p
  rcases Nat.lt_or_ge i xs.length with lt | ge
  · refine .inr ⟨k.go i H q lt, Pv (i + 1), fun H' p' => ⟨xs.length - (i + 1), by omega, rfl, lt, p'⟩, fun x H' y => ?_⟩
    obtain ⟨e, y2⟩ := k.yl i H x H' q lt y
    subst e
    exact hs i x _ y2 p
  · obtain rfl : i = xs.length := by omega
    exact .inl ⟨k.stop _ H q rfl, hd H p⟩
end
section
variable {C : Cfg} {α : List Addr} {σ : L2.St} {H H' : Hp} {Γ : Gam} {μ : Mem}
/-- the last mutable thing is left -/
theorem Rl.drop0 {p : Addr} {c : Cell} {σ' : L2.St} {Γ' : Gam} (nd : c ≠ .dead) (r : Rl C α σ H Γ μ) (r' : Rl C (α ++ [p]) σ' H' Γ' (μ ++ [c])) (m : Mv C α μ H (α ++ [p]) (μ ++ [c]) H') :
    Rl C α σ H' Γ μ ∧ Mv C α μ H α μ H' ∧ Ex (gk C (α ++ [p]) (μ ++ [c]) H') (gk C α μ H') := by
  have le : Ex (gk C (α ++ [p]) (μ ++ [c]) H') (gk C α μ H') := fun a o q => by
    obtain ⟨h1, h2⟩ := gk_at q
    exact gk_of h1 fun z => h2 ((Hid.grow r.len nd).mpr (.inl z))
  refine ⟨⟨r'.keep, r.dom, r.sN, r.new, r.nd, fun a ha => r'.there a (List.mem_append_left _ ha), r.len, fun k a c' h1 h2 => ?_, r'.st, r.slen, fun i d q => ?_⟩, ⟨fun _ _ q => q, m.ex.trans le⟩, le⟩
  · have x' := r'.cells k a c' (by rw [List.getElem?_append_left (List.getElem?_eq_some_iff.mp h1).1]; exact h1) (by rw [List.getElem?_append_left (List.getElem?_eq_some_iff.mp h2).1]; exact h2)
    have x := r.cells k a c' h1 h2
    cases c' with
    | dead => trivial
    | any => trivial
    | lst ds =>
      obtain ⟨_, _, b⟩ := x
      obtain ⟨xs, e1, e2⟩ := x'
      exact ⟨xs, e1, (Iss.cut ds _ e2 (Iss.bel ds _ b)).mono le fun _ _ q => q⟩
    | dk ks ds =>
      obtain ⟨_, _, _, b⟩ := x
      obtain ⟨xs, e1, e3, e2⟩ := x'
      exact ⟨xs, e1, e3, (Iss.cut ds _ e2 (Iss.bel ds _ b)).mono le fun _ _ q => q⟩
    | dt ks ds =>
      obtain ⟨_, _, _, _, b⟩ := x
      obtain ⟨m, vs, e1, e3, e2⟩ := x'
      exact ⟨m, vs, e1, ⟨e3.1, fun x hx => le.tupd (e3.2.1 x hx), e3.2.2⟩, (Iss.cut ds _ e2 (Iss.bel ds _ b)).mono le fun _ _ q => q⟩
  · obtain ⟨v, h1, h2⟩ := r.env i d q
    exact ⟨v, h1, (Is.cut d v (m.is h2) (Is.bel d v h2)).mono le fun _ _ q => q⟩
/-- a dict of ours comes to rest -/
theorem Rl.restD {p : Addr} {ks : List (List Int)} {ds : List D} {σ' : L2.St} {Γ' : Gam} (r : Rl C α σ H Γ μ) (hp : H p = none) (r' : Rl C (α ++ [p]) σ' H' Γ' (μ ++ [Cell.dt ks ds])) (m : Mv C α μ H (α ++ [p]) (μ ++ [Cell.dt ks ds]) H') (hb : pures ds = true) :
    ∃ m0, H' p = some (.ext (DictI p m0)) ∧ ∀ od, Rl C α σ (upd H' p (.frz od (.ext (DictI p m0)))) Γ μ ∧ Mv C α μ H α μ (upd H' p (.frz od (.ext (DictI p m0)))) ∧ Is C.K C.S α (gk C α μ (upd H' p (.frz od (.ext (DictI p m0))))) (.dt ks ds) (.ref p) := by
  have ha : (α ++ [p])[α.length]? = some p := by simp
  have hm : (μ ++ [Cell.dt ks ds])[α.length]? = some (.dt ks ds) := by rw [r.len]; simp
  obtain ⟨m0, vs, h1, h2, h3⟩ := r'.cells _ _ _ ha hm
  refine ⟨m0, h1, fun od => ?_⟩
  obtain ⟨r2, m2⟩ := r'.write (o := .frz od (.ext (DictI p m0))) (c := .any) ha (by rw [hm]; exact fun q => nomatch q) True.intro (fun q => nomatch q)
  have es : (μ ++ [Cell.dt ks ds]).set α.length .any = μ ++ [.any] := by rw [r.len]; simp
  rw [es] at r2 m2
  obtain ⟨r3, m3, le⟩ := Rl.drop0 (c := .any) (fun q => nomatch q) r r2 (m.trans m2)
  refine ⟨r3, m3, .dt (gk_of upd_same (r.free hp)) ⟨h2.1, fun x hx => le.tupd (m2.ex.tupd (h2.2.1 x hx)), h2.2.2⟩ ?_⟩
  exact ((Iss.any ds vs h3 hb).mono m2.ex fun _ _ q => q).mono le fun _ _ q => q
end
def wDcL (tf : D → Gam → Option Gam) (wt : DT) (wk we : DX) : List D → List (List Int) → List D → Gam → Mem → (List (List Int) → List D → Mem → Prop) → Prop
  | [], ks, ds, _, μ, R => R ks ds μ
  | x :: xs, ks, ds, Γw, μ, R => match tf x Γw with
    | some Γ1 => wt Γ1 (μ ++ [Cell.dt ks ds]) (fun b μ1 => μ1 = μ ++ [Cell.dt ks ds] ∧ if b = true then
        wk Γ1 (μ ++ [Cell.dt ks ds]) (fun y μ2 => μ2 = μ ++ [Cell.dt ks ds] ∧ we Γ1 (μ ++ [Cell.dt ks ds]) (fun d μ3 => μ3 = μ ++ [Cell.dt ks ds] ∧ d.pure = true ∧ match keyD y with
          | some k => wDcL tf wt wk we xs (putD ks ds k d).1 (putD ks ds k d).2 Γw μ R
          | none => False) Z0) Z0 else wDcL tf wt wk we xs ks ds Γw μ R) Z0
    | none => False
def wDc (tf : D → Gam → Option Gam) (ws : DA) (wt : DT) (wk we : DX) (vs : List Nat) : DX := fun Γ μ R Z => ws Γ μ (fun xs μ1 => xs.length ≤ big ∧ wDcL tf wt wk we xs [] [] (wipeG Γ vs) μ1 fun ks ds μ2 => R (.dt ks ds) μ2) Z
theorem repK_pures : ∀ (ks : List (List Int)) (ds : List D) (k : List Int) (d : D), d.pure = true → pures ds = true → pures (repK ks ds k d) = true
  | [], _, _, _, _, h => by
    unfold repK
    first | exact h | rfl
  | _ :: _, [], _, _, _, _ => rfl
  | a :: ks, e :: ds, k, d, hd, h => by
    have h : (e.pure && pures ds) = true := h
    rw [Bool.and_eq_true] at h
    have t := repK_pures ks ds k d hd h.2
    show pures ((if a = k then d else e) :: repK ks ds k d) = true
    show ((if a = k then d else e).pure && pures (repK ks ds k d)) = true
    rw [t]
    split
    · rw [hd]; rfl
    · rw [h.1]; rfl
theorem putD_pures {ks : List (List Int)} {ds : List D} {k : List Int} {d : D} (hd : d.pure = true) (h : pures ds = true) : pures (putD ks ds k d).2 = true := by
  unfold putD
  split
  · exact repK_pures ks ds k d hd h
  · exact pures_append h (by show (d.pure && true) = true; rw [hd]; rfl)
theorem putD_len (ks : List (List Int)) (ds : List D) (k : List Int) (d : D) : (putD ks ds k d).1.length ≤ ks.length + 1 := by
  unfold putD
  split
  · exact Nat.le_succ _
  · simp
section
variable {X : Cx} {C : Cfg} {W : WX} {ke ve tg iter : Expr} {ifs : List Expr} {scope : Scope} {own : List (Str × Nat)} {pos : Pos} {g : TG} {tf : D → Gam → Option Gam} {ws : DA} {wt : DT} {wk we : DX} {vs : List Nat}
theorem same_addrs {α α' : List Addr} {σ σ' : L2.St} {H H' : Hp} {Γ Γ' : Gam} {μ μ' : Mem} (r : Rl C α σ H Γ μ) (r' : Rl C α' σ' H' Γ' μ') (m : Mv C α μ H α' μ' H') (e : μ.length = μ'.length) : α' = α := by
  refine List.ext_getElem? fun n => ?_
  by_cases hn : n < α.length
  · rw [List.getElem?_eq_getElem hn]
    exact m.pre n _ (List.getElem?_eq_getElem hn)
  · have l1 := r.len
    have l2 := r'.len
    rw [List.getElem?_eq_none (Nat.le_of_not_lt hn), List.getElem?_eq_none (by omega)]
theorem dc_main {σ : L2.St} {H : Hp} {Q : VK} (og : OwnG C g tf vs) (h : canE C W (wDc tf ws wt wk we vs) σ H Q) :
    tDcI C.K (canI C W ws) g (canT C W0 wt) (canE C W0 wk) (canE C W0 we) vs σ H fun v H1 => ∃ d u, v = .ref d ∧ H1 d = some u ∧ Mut (some u) ∧ ∀ od, Q v (upd H1 d (.frz od u)) := by
  obtain ⟨α, Γ, μ, R, Z, r, w, k, z⟩ := h
  refine ⟨α, Γ, μ, _, Z, r, w, fun xsD xs J G α1 μ1 H1 w1 r1 m1 i1 k1 g1 T hT => ?_, z⟩
  obtain ⟨hz, w1⟩ := w1
  have hlen := i1.length
  refine dc_wk k1 (fun i H' => ∃ (ks : List (List Int)) (ds : List D), Rl C (α1 ++ [T]) (L2.wipe σ vs) H' (wipeG Γ vs) (μ1 ++ [Cell.dt ks ds]) ∧ Mv C α1 μ1 H1 (α1 ++ [T]) (μ1 ++ [Cell.dt ks ds]) H' ∧ pures ds = true ∧ ks.length ≤ i ∧ i ≤ xsD.length ∧
    wDcL tf wt wk we (xsD.drop i) ks ds (wipeG Γ vs) μ1 fun ks ds μ2 => R (.dt ks ds) μ2) ?_ ?_ ?_ ?_
  · obtain ⟨r2, m2⟩ := (r1.wipe vs).grow (o := .ext (DictI T [])) (c := .dt [] []) hT ⟨[], [], upd_same, ⟨rfl, (fun x hx => by cases hx), Paired.nil⟩, Iss.nil⟩ (fun q => nomatch q)
    exact ⟨[], [], r2, m2, rfl, Nat.zero_le _, Nat.zero_le _, w1⟩
  · rintro i H' ⟨ks, ds, _, m, _⟩
    exact g1 _ _ _ m
  · rintro i x H' hx ⟨ks, ds, r2, m2, hp, hl, hi, w2⟩
    obtain ⟨d, hd, id⟩ := i1.get' hx
    obtain ⟨hlt, he⟩ := List.getElem?_eq_some_iff.mp hd
    rw [List.drop_eq_getElem_cons hlt, he] at w2
    unfold wDcL at w2
    split at w2
    · rename_i Γ1 ht
      refine og.go _ σ H' Γ _ d x _ Γ1 r2 (m2.is id) ht fun σ' r3 hw => ⟨hw, ?_⟩
      refine ⟨_, Γ1, _, _, Z0, r3, w2, fun b α4 μ4 H4 w4 r4 m4 => ?_, fun cl α' Γ' μ' σ' H' z _ _ => z⟩
      obtain ⟨em, w4⟩ := w4
      subst em
      have ea := same_addrs r3 r4 m4 rfl
      subst ea
      have back : ∀ {Hx : Hp} {ks' : List (List Int)} {ds' : List D}, Rl C (α1 ++ [T]) σ' Hx Γ1 (μ1 ++ [.dt ks' ds']) → Mv C (α1 ++ [T]) (μ1 ++ [Cell.dt ks ds]) H' (α1 ++ [T]) (μ1 ++ [.dt ks' ds']) Hx → Rl C (α1 ++ [T]) (L2.wipe σ vs) Hx (wipeG Γ vs) (μ1 ++ [.dt ks' ds']) := fun {Hx ks' ds'} rx mx =>
        rx.senv r2.slen fun j e q => by
          obtain ⟨v, h1, h2⟩ := r2.env j e q
          exact ⟨v, h1, mx.is h2⟩
      cases b with
      | true =>
        rw [if_pos rfl] at w4 ⊢
        refine ⟨_, Γ1, _, _, Z0, r4, w4, fun y yv α5 μ5 H5 w5 r5 m5 i5 => ?_, fun cl α' Γ' μ' σ' H' z _ _ => z⟩
        obtain ⟨em, w5⟩ := w5
        subst em
        have ea := same_addrs r4 r5 m5 rfl
        subst ea
        refine ⟨_, Γ1, _, _, Z0, r5, w5, fun e ev α6 μ6 H6 w6 r6 m6 i6 => ?_, fun cl α' Γ' μ' σ' H' z _ _ => z⟩
        obtain ⟨em, hpe, w6⟩ := w6
        subst em
        have ea := same_addrs r5 r6 m6 rfl
        subst ea
        split at w6
        · rename_i kk hkk
          obtain ⟨bb, rfl, tk⟩ := key_is (m6.is i5) hkk
          have ha : (α1 ++ [T])[α1.length]? = some T := by simp
          have hm : (μ1 ++ [Cell.dt ks ds])[α1.length]? = some (.dt ks ds) := by rw [r1.len]; simp
          obtain ⟨m, vs', h1, h2, h3⟩ := r6.cells _ _ _ ha hm
          have ml : m.length = ks.length := by rw [← h2.1, List.length_map]
          refine ⟨T, m, bb, kk, rfl, rfl, ⟨h1, h2.kd (.inl h1) gk_ex⟩, gk_ex.tupd tk, by rw [ml]; exact big_lt (by omega), fun u ru => ?_⟩
          obtain ⟨vs2, p1, p2⟩ := put_ok (b := bb) h2 h3 tk ru i6
          obtain ⟨r7, m7⟩ := r6.write (c := .dt (putD ks ds kk e).1 (putD ks ds kk e).2) ha (by rw [hm]; exact fun q => nomatch q) ⟨_, vs2, upd_same, p1, p2⟩ (fun q => nomatch q)
          have em : (μ1 ++ [Cell.dt ks ds]).set α1.length (.dt (putD ks ds kk e).1 (putD ks ds kk e).2) = μ1 ++ [Cell.dt (putD ks ds kk e).1 (putD ks ds kk e).2] := by
            rw [r1.len]
            simp
          rw [em] at r7 m7
          have mm := ((m4.trans m5).trans m6).trans m7
          have pl := putD_len ks ds kk e
          exact ⟨_, _, back r7 mm, m2.trans mm, putD_pures hpe hp, by omega, hlt, w6⟩
        · exact w6.elim
      | false =>
        rw [if_neg (by decide)] at w4 ⊢
        exact ⟨ks, ds, back r4 m4, m2.trans m4, hp, by omega, hlt, w4⟩
    · exact w2.elim
  · rintro H' ⟨ks, ds, r2, m2, hp, hl, hi, w2⟩
    rw [← hlen, List.drop_length] at w2
    obtain ⟨m0, e0, rest⟩ := Rl.restD r1 hT r2 m2 hp
    refine ⟨T, _, rfl, e0, True.intro, fun od => ?_⟩
    obtain ⟨r3, m3, i3⟩ := rest od
    exact k _ _ _ _ _ w2 r3 (m1.trans m3) i3
theorem de_dc (hK : X.K = C.K) (room : X.A.units < cLine) (hc : X.calm = true) (hN : X.N.Nodup) (hi : DI X C W tg iter ws) (ok : BlkOk X.N X.env.scope scope own) (og : OwnG C g tf (own.map (·.2)))
    (hg : ∀ (s : Shared) (H : Hp) (A : Addr) (cl : List (Str × Addr)) (fp : List Addr), PG (X.blk s H scope (compEnvC scope cl A X.env) fp) tg g)
    (ht : ∀ (s : Shared) (H : Hp) (A : Addr) (cl : List (Str × Addr)) (fp : List Addr), PTs (X.blk s H scope (compEnvC scope cl A X.env) fp) ifs (canT C W0 wt))
    (hk : ∀ (s : Shared) (H : Hp) (A : Addr) (cl : List (Str × Addr)) (fp : List Addr), DE (X.blk s H scope (compEnvC scope cl A X.env) fp) C W0 ke wk)
    (hv : ∀ (s : Shared) (H : Hp) (A : Addr) (cl : List (Str × Addr)) (fp : List Addr), DE (X.blk s H scope (compEnvC scope cl A X.env) fp) C W0 ve we) (hs : ∀ x, foldedSetIterable iter X.env x = pure x := by intro _; rfl) :
    DE X C W (.DictComp ke ve [⟨tg, iter, ifs, 0⟩] scope pos) (wDc tf ws wt wk we (own.map (·.2))) := by
  have q := pe_frzT (pe_dcI (pos := pos) room hc hN hi ok hg ht hk hv hs)
  refine PE.imp q fun σ H Q h => ?_
  rw [hK]
  exact dc_main og h
end
end TC

set_option Elab.async false
set_option linter.all false
set_option maxRecDepth 100000
set_option maxHeartbeats 2000000
/-! Lists made by a comprehension of two loops. -/
namespace TC
open PySem PySem.Spec PyProof.Rows L2
def wLcL2 (tf : D → Gam → Option Gam) (wt : DT) (ws1 : DA) (tf1 : D → Gam → Option Gam) (wt1 : DT) (we : DX) (vs1 : List Nat) : List D → List D → Gam → Mem → (List D → Mem → Prop) → Prop
  | [], acc, _, μ, R => R acc μ
  | x :: xs, acc, Γw, μ, R => match tf x Γw with
    | some Γ1 => wt Γ1 (μ ++ [Cell.lst acc]) (fun b μ1 => μ1 = μ ++ [Cell.lst acc] ∧ if b = true then
        ws1 Γ1 (μ ++ [Cell.lst acc]) (fun ys μ2 => μ2 = μ ++ [Cell.lst acc] ∧ acc.length + ys.length ≤ big ∧ wLcL tf1 wt1 we ys acc (wipeG Γ1 vs1) μ fun acc' _ => wLcL2 tf wt ws1 tf1 wt1 we vs1 xs acc' Γw μ R) Z0
        else wLcL2 tf wt ws1 tf1 wt1 we vs1 xs acc Γw μ R) Z0
    | none => False
def wLc2 (tf : D → Gam → Option Gam) (ws : DA) (wt : DT) (ws1 : DA) (tf1 : D → Gam → Option Gam) (wt1 : DT) (we : DX) (vs vs1 : List Nat) : DX := fun Γ μ R Z => ws Γ μ (fun xs μ1 => wLcL2 tf wt ws1 tf1 wt1 we vs1 xs [] (wipeG Γ vs) μ1 fun acc μ2 => R (.lst acc) μ2) Z
section
variable {J : It} {xs : List V} {G : Hp → Prop}
theorem in_wk (k : Wk J xs G) {g : TG} {tt : TT} {te : TE} {vs : List Nat} {σ : L2.St} {H1 : Hp} {T : Addr} {Qd : Hp → Prop} (Pv : Nat → Hp → Prop) (h0 : Pv 0 H1) (hl : ∀ i H, Pv i H → G H)
    (hs : ∀ i x H, xs[i]? = some x → Pv i H → g x (L2.wipe σ vs) H fun σ2 H2 => L2.wipe σ2 vs = L2.wipe σ vs ∧ tt σ2 H2 fun b H3 => if b = true then te σ2 H3 fun y H4 => ∃ acc, H4 T = some (.lst acc) ∧ acc.length < sizeLine ∧ Pv (i + 1) (upd H4 T (.lst (acc ++ [y]))) else Pv (i + 1) H3) (hd : ∀ H, Pv xs.length H → Qd H) :
    ∃ W : Nat → Nat → Hp → Prop, (∃ m, W 0 m H1) ∧ ∀ i m H, W i m H →
      (J.stop i H ∧ Qd H) ∨ (J.go i H ∧ ∃ Nx : Hp → Prop, (∀ H', Nx H' → ∃ m', m' < m ∧ W (i + 1) m' H') ∧ ∀ x H', J.yld i H x H' → g x (L2.wipe σ vs) H' fun σ2 H2 => L2.wipe σ2 vs = L2.wipe σ vs ∧ tt σ2 H2 fun b H3 => if b = true then te σ2 H3 fun y H4 => ∃ acc, H4 T = some (.lst acc) ∧ acc.length < sizeLine ∧ Nx (upd H4 T (.lst (acc ++ [y]))) else Nx H3) := by
  refine ⟨fun i m H => m = xs.length - i ∧ i ≤ xs.length ∧ Pv i H, ⟨xs.length, by simp, Nat.zero_le _, h0⟩, ?_⟩
  rintro i m H ⟨rfl, hi, p⟩
  have q := hl i H p
  rcases Nat.lt_or_ge i xs.length with lt | ge
  · refine .inr ⟨k.go i H q lt, Pv (i + 1), fun H' p' => ⟨xs.length - (i + 1), by omega, rfl, lt, p'⟩, fun x H' y => ?_⟩
    obtain ⟨e, y2⟩ := k.yl i H x H' q lt y
    subst e
    exact hs i x _ y2 p
  · obtain rfl : i = xs.length := by omega
    exact .inl ⟨k.stop _ H q rfl, hd H p⟩
end
section
variable {X : Cx} {C : Cfg} {W : WX} {elt tg iter tg1 iter1 : Expr} {ifs ifs1 : List Expr} {scope : Scope} {own : List (Str × Nat)} {pos : Pos} {g g1 : TG} {tf tf1 : D → Gam → Option Gam} {ws ws1 : DA} {wt wt1 : DT} {we : DX} {vs vs1 : List Nat}
/-- one loop at work on a list that stands already -/
theorem in_main {α : List Addr} {T : Addr} {σ : L2.St} {H : Hp} {Γ : Gam} {μ : Mem} {acc : List D} {ds : List D} {xs : List V} {J : It} {G : Hp → Prop} {R : List D → Mem → Prop} {Qd : Hp → Prop} (og : OwnG C g tf vs)
    (r : Rl C (α ++ [T]) σ H Γ (μ ++ [Cell.lst acc])) (hT : α.length = μ.length) (hp : pures acc = true) (hz : acc.length + ds.length ≤ big) (i1 : Iss C.K C.S (α ++ [T]) (gk C (α ++ [T]) (μ ++ [Cell.lst acc]) H) ds xs) (k1 : Wk J xs G)
    (g1 : ∀ acc' H2, Mv C (α ++ [T]) (μ ++ [Cell.lst acc]) H (α ++ [T]) (μ ++ [Cell.lst acc']) H2 → G H2) (w : wLcL tf wt we ds acc (wipeG Γ vs) μ R)
    (qd : ∀ acc' H', Rl C (α ++ [T]) (L2.wipe σ vs) H' (wipeG Γ vs) (μ ++ [Cell.lst acc']) → Mv C (α ++ [T]) (μ ++ [Cell.lst acc]) H (α ++ [T]) (μ ++ [Cell.lst acc']) H' → pures acc' = true → R acc' μ → Qd H') :
    ∃ W1 : Nat → Nat → Hp → Prop, (∃ m, W1 0 m H) ∧ ∀ i m H, W1 i m H →
      (J.stop i H ∧ Qd H) ∨ (J.go i H ∧ ∃ Nx : Hp → Prop, (∀ H', Nx H' → ∃ m', m' < m ∧ W1 (i + 1) m' H') ∧ ∀ x H', J.yld i H x H' → g x (L2.wipe σ vs) H' fun σ2 H2 => L2.wipe σ2 vs = L2.wipe σ vs ∧ (canT C W0 wt) σ2 H2 fun b H3 => if b = true then (canE C W0 we) σ2 H3 fun y H4 => ∃ acc, H4 T = some (.lst acc) ∧ acc.length < sizeLine ∧ Nx (upd H4 T (.lst (acc ++ [y]))) else Nx H3) := by
  have hlen := i1.length
  refine in_wk k1 (fun i H' => ∃ acc' : List D, Rl C (α ++ [T]) (L2.wipe σ vs) H' (wipeG Γ vs) (μ ++ [Cell.lst acc']) ∧ Mv C (α ++ [T]) (μ ++ [Cell.lst acc]) H (α ++ [T]) (μ ++ [Cell.lst acc']) H' ∧ pures acc' = true ∧ acc'.length ≤ acc.length + i ∧ i ≤ ds.length ∧ wLcL tf wt we (ds.drop i) acc' (wipeG Γ vs) μ R) ?_ ?_ ?_ ?_
  · exact ⟨acc, r.wipe vs, Mv.refl, hp, Nat.le_refl _, Nat.zero_le _, w⟩
  · rintro i H' ⟨acc', _, m, _⟩
    exact g1 _ _ m
  · rintro i x H' hx ⟨acc', r2, m2, hp', hl, hi, w2⟩
    obtain ⟨d, hd, id⟩ := i1.get' hx
    obtain ⟨hlt, he⟩ := List.getElem?_eq_some_iff.mp hd
    rw [List.drop_eq_getElem_cons hlt, he] at w2
    unfold wLcL at w2
    split at w2
    · rename_i Γ1 ht
      refine og.go _ σ H' Γ _ d x _ Γ1 r2 (m2.is id) ht fun σ' r3 hw => ⟨hw, ?_⟩
      refine ⟨_, Γ1, _, _, Z0, r3, w2, fun b α4 μ4 H4 w4 r4 m4 => ?_, fun cl α' Γ' μ' σ' H' z _ _ => z⟩
      obtain ⟨em, w4⟩ := w4
      subst em
      have ea := same_addrs r3 r4 m4 rfl
      subst ea
      have back : ∀ {Hx : Hp} {a' : List D}, Rl C (α ++ [T]) σ' Hx Γ1 (μ ++ [.lst a']) → Mv C (α ++ [T]) (μ ++ [Cell.lst acc']) H' (α ++ [T]) (μ ++ [.lst a']) Hx → Rl C (α ++ [T]) (L2.wipe σ vs) Hx (wipeG Γ vs) (μ ++ [.lst a']) := fun {Hx a'} rx mx =>
        rx.senv r2.slen fun j e q => by
          obtain ⟨v, h1, h2⟩ := r2.env j e q
          exact ⟨v, h1, mx.is h2⟩
      cases b with
      | true =>
        rw [if_pos rfl] at w4 ⊢
        refine ⟨_, Γ1, _, _, Z0, r4, w4, fun e v' α5 μ5 H5 w5 r5 m5 i5 => ?_, fun cl α' Γ' μ' σ' H' z _ _ => z⟩
        obtain ⟨em, hpd, w5⟩ := w5
        subst em
        have ea := same_addrs r4 r5 m5 rfl
        subst ea
        have ha : (α ++ [T])[α.length]? = some T := by simp
        have hm : (μ ++ [Cell.lst acc'])[α.length]? = some (.lst acc') := by rw [hT]; simp
        obtain ⟨ys, h1, h2⟩ := r5.cells _ _ _ ha hm
        have hal := h2.length
        refine ⟨ys, h1, by rw [← hal]; exact big_lt (by omega), ?_⟩
        obtain ⟨r6, m6⟩ := r5.write (o := .lst (ys ++ [v'])) (c := .lst (acc' ++ [e])) ha (by rw [hm]; exact fun q => nomatch q) ⟨_, upd_same, h2.append (.cons i5 .nil)⟩ (fun q => nomatch q)
        have em : (μ ++ [Cell.lst acc']).set α.length (.lst (acc' ++ [e])) = μ ++ [Cell.lst (acc' ++ [e])] := by
          rw [hT]
          simp
        rw [em] at r6 m6
        have mm := (m4.trans m5).trans m6
        exact ⟨acc' ++ [e], back r6 mm, m2.trans mm, pures_append hp' (by show (e.pure && pures []) = true; rw [hpd]; rfl), by rw [List.length_append, List.length_singleton]; omega, hlt, w5⟩
      | false =>
        rw [if_neg (by decide)] at w4 ⊢
        exact ⟨acc', back r4 m4, m2.trans m4, hp', by omega, hlt, w4⟩
    · exact w2.elim
  · rintro H' ⟨acc', r2, m2, hp', hl, hi, w2⟩
    rw [← hlen, List.drop_length] at w2
    exact qd acc' H' r2 m2 hp' w2
theorem lc2_main {σ : L2.St} {H : Hp} {Q : VK} (og : OwnG C g tf vs) (og1 : OwnG C g1 tf1 vs1) (h : canE C W (wLc2 tf ws wt ws1 tf1 wt1 we vs vs1) σ H Q) :
    tLc2 (canI C W ws) g (canT C W0 wt) (canI C W0 ws1) g1 (canT C W0 wt1) (canE C W0 we) vs vs1 σ H Q := by
  obtain ⟨α, Γ, μ, R, Z, r, w, k, z⟩ := h
  refine ⟨α, Γ, μ, _, Z, r, w, fun ds xs J G α1 μ1 H1 w1 r1 m1 i1 k1 gG T hT => ?_, z⟩
  have hlen := i1.length
  refine ⟨fun i m H' => m = xs.length - i ∧ i ≤ xs.length ∧ ∃ acc : List D, Rl C (α1 ++ [T]) (L2.wipe σ vs) H' (wipeG Γ vs) (μ1 ++ [Cell.lst acc]) ∧ Mv C α1 μ1 H1 (α1 ++ [T]) (μ1 ++ [Cell.lst acc]) H' ∧ pures acc = true ∧
    wLcL2 tf wt ws1 tf1 wt1 we vs1 (ds.drop i) acc (wipeG Γ vs) μ1 fun acc μ2 => R (.lst acc) μ2, ?_, ?_⟩
  · obtain ⟨r2, m2, _⟩ := Rl.mlst (r1.wipe vs) hT (ds := []) (xs := []) .nil
    exact ⟨xs.length, by simp, Nat.zero_le _, [], r2, m2, rfl, w1⟩
  · rintro i m H' ⟨rfl, hi, acc, r2, m2, hp, w2⟩
    have q := gG _ _ _ m2
    rcases Nat.lt_or_ge i xs.length with lt | ge
    · let Nx : Hp → Prop := fun H' => ∃ acc : List D, Rl C (α1 ++ [T]) (L2.wipe σ vs) H' (wipeG Γ vs) (μ1 ++ [Cell.lst acc]) ∧ Mv C α1 μ1 H1 (α1 ++ [T]) (μ1 ++ [Cell.lst acc]) H' ∧ pures acc = true ∧ wLcL2 tf wt ws1 tf1 wt1 we vs1 (ds.drop (i + 1)) acc (wipeG Γ vs) μ1 fun acc μ2 => R (.lst acc) μ2
      refine .inr ⟨k1.go i H' q lt, Nx, fun H2 p2 => ⟨xs.length - (i + 1), by omega, rfl, lt, p2⟩, fun x H2 y => ?_⟩
      obtain ⟨e, hx⟩ := k1.yl i H' x H2 q lt y
      subst e
      obtain ⟨d, hd, id⟩ := i1.get' hx
      obtain ⟨hlt, he⟩ := List.getElem?_eq_some_iff.mp hd
      rw [List.drop_eq_getElem_cons hlt, he] at w2
      unfold wLcL2 at w2
      split at w2
      · rename_i Γ1 ht
        refine og.go _ σ H2 Γ _ d x _ Γ1 r2 (m2.is id) ht fun σ' r3 hw => ⟨hw, ?_⟩
        refine ⟨_, Γ1, _, _, Z0, r3, w2, fun b α4 μ4 H4 w4 r4 m4 => ?_, fun cl α' Γ' μ' σ' H' z _ _ => z⟩
        obtain ⟨em, w4⟩ := w4
        subst em
        have ea := same_addrs r3 r4 m4 rfl
        subst ea
        have back : ∀ {Hx : Hp} {Γx : Gam} {σx : L2.St} {a' : List D}, Rl C (α1 ++ [T]) σx Hx Γx (μ1 ++ [.lst a']) → Mv C (α1 ++ [T]) (μ1 ++ [Cell.lst acc]) H2 (α1 ++ [T]) (μ1 ++ [.lst a']) Hx → Rl C (α1 ++ [T]) (L2.wipe σ vs) Hx (wipeG Γ vs) (μ1 ++ [.lst a']) := fun {Hx Γx σx a'} rx mx =>
          rx.senv r2.slen fun j e q => by
            obtain ⟨v, h1, h2⟩ := r2.env j e q
            exact ⟨v, h1, mx.is h2⟩
        cases b with
        | true =>
          rw [if_pos rfl] at w4 ⊢
          refine ⟨_, Γ1, _, _, Z0, r4, w4, fun ysD ys J1 G1 α5 μ5 H5 w5 r5 m5 i5 k5 g5 => ?_, fun cl α' Γ' μ' σ' H' z _ _ => z⟩
          obtain ⟨em, hz, w5⟩ := w5
          subst em
          have ea := same_addrs r4 r5 m5 rfl
          subst ea
          exact in_main og1 r5 r1.len hp hz i5 k5 (fun a' H6 m6 => g5 _ _ _ m6) w5 fun a' H6 r6 m6 hp6 w6 => ⟨a', back r6 ((m4.trans m5).trans m6), m2.trans ((m4.trans m5).trans m6), hp6, w6⟩
        | false =>
          rw [if_neg (by decide)] at w4 ⊢
          exact ⟨acc, back r4 m4, m2.trans m4, hp, w4⟩
      · exact w2.elim
    · obtain rfl : i = xs.length := by omega
      rw [← hlen, List.drop_length] at w2
      refine .inl ⟨k1.stop _ H' q rfl, ?_⟩
      obtain ⟨r3, m3, i3⟩ := Rl.drop r1 hT r2 m2 hp
      exact k _ _ _ _ _ w2 r3 (m1.trans m3) i3
theorem de_lc2 (hc : X.calm = true) (hN : X.N.Nodup) (hi : DI X C W tg iter ws) (ok : BlkOk X.N X.env.scope scope own) (hv : ∀ i ∈ vs1, i ∈ own.map (·.2)) (og : OwnG C g tf (own.map (·.2))) (og1 : OwnG C g1 tf1 vs1)
    (hg : ∀ (s : Shared) (H : Hp) (A : Addr) (cl : List (Str × Addr)) (fp : List Addr), PG (X.blk s H scope (compEnvC scope cl A X.env) fp) tg g)
    (ht : ∀ (s : Shared) (H : Hp) (A : Addr) (cl : List (Str × Addr)) (fp : List Addr), PTs (X.blk s H scope (compEnvC scope cl A X.env) fp) ifs (canT C W0 wt))
    (hi1 : ∀ (s : Shared) (H : Hp) (A : Addr) (cl : List (Str × Addr)) (fp : List Addr), DI (X.blk s H scope (compEnvC scope cl A X.env) fp) C W0 tg1 iter1 ws1)
    (hg1 : ∀ (s : Shared) (H : Hp) (A : Addr) (cl : List (Str × Addr)) (fp : List Addr), PG (X.blk s H scope (compEnvC scope cl A X.env) fp) tg1 g1)
    (ht1 : ∀ (s : Shared) (H : Hp) (A : Addr) (cl : List (Str × Addr)) (fp : List Addr), PTs (X.blk s H scope (compEnvC scope cl A X.env) fp) ifs1 (canT C W0 wt1))
    (he : ∀ (s : Shared) (H : Hp) (A : Addr) (cl : List (Str × Addr)) (fp : List Addr), DE (X.blk s H scope (compEnvC scope cl A X.env) fp) C W0 elt we) (hs : ∀ x, foldedSetIterable iter X.env x = pure x := by intro _; rfl) (hs1 : ∀ env x, foldedSetIterable iter1 env x = pure x := by intro _ _; rfl) :
    DE X C W (.ListComp elt [⟨tg, iter, ifs, 0⟩, ⟨tg1, iter1, ifs1, 0⟩] scope pos) (wLc2 tf ws wt ws1 tf1 wt1 we (own.map (·.2)) vs1) :=
  (pe_lc2 hc hN hi ok hv hg ht hi1 hg1 ht1 he hs hs1).imp fun σ H Q h => lc2_main og og1 h
/-- y = [.. for .. for ..] -/
theorem ds_lc2 {st : Stmt} {i : Nat} (h : PS X st (tAsg (tLc2 (canI C W ws) g (canT C W0 wt) (canI C W0 ws1) g1 (canT C W0 wt1) (canE C W0 we) vs vs1) (gName i))) (og : OwnG C g tf vs) (og1 : OwnG C g1 tf1 vs1) : DSt X C W st (wAsg i (wLc2 tf ws wt ws1 tf1 wt1 we vs vs1)) :=
  ds_asg (PS.imp h fun En σ H h => lc2_main og og1 h)
end
end TC

set_option Elab.async false
set_option linter.all false
set_option maxRecDepth 100000
set_option maxHeartbeats 2000000
/-! sum(list of numbers) -/
namespace TC
open PySem PySem.Spec PyProof.Rows L2
section
variable {C : Cfg}
def dSum : List D → Mem → RD → Prop := fun ds μ R => match ds with
  | [.lst es] => ∃ ns : List Int, es = ns.map D.int ∧ R (.int ns.sum) μ
  | _ => False
theorem sn_sum : SndCall C (fun vs H Q => rSum C.K vs H Q) dSum := by
  intro ds vs α σ H Γ μ R Q r i w k
  unfold dSum at w
  split at w
  · obtain ⟨v, rfl, h⟩ := iss1 i
    obtain ⟨ns, rfl, w⟩ := w
    cases h with
    | lst h q =>
      have e := q.ints
      subst e
      exact ⟨_, ns, rfl, SqL.of (gk_ex _ _ h), k _ _ _ _ _ w r Mv.refl (.int _)⟩
  · exact w.elim
end
end TC

set_option Elab.async false
set_option linter.all false
set_option maxRecDepth 100000
set_option maxHeartbeats 2000000
/-! sorted(list of lists of numbers), any number of them. -/
namespace TC
open PySem PySem.Spec PyProof.Rows L2
def LstV (h : Heap) (v : Value) (ns : List Int) : Prop := ∃ a us, v = .ref a ∧ h.IsList a (List.toArray us) ∧ Vals (ns.map V.int) us
theorem LstV.keeps {h h' : Heap} {v : Value} {ns : List Int} (p : LstV h v ns) (k : ∀ b o, v = .ref b → h.get? b = some o → h'.get? b = some o) : LstV h' v ns := by
  obtain ⟨a, us, e, hl, r⟩ := p
  exact ⟨a, us, e, hl.at fun o q => k a o e q, r⟩
theorem first_lex : ∀ (ns ms : List Int) (k : Nat) (e r : Nat → Bool), (∀ j, j < ns.length → j < ms.length → e (k + j) = decide (ns.getD j 0 = ms.getD j 0) ∧ r (k + j) = decide (ns.getD j 0 < ms.getD j 0)) →
    SeqAt.firstLt e r (decide (ns.length < ms.length)) (List.range' k (min ns.length ms.length)) = HT.lexLt ns ms
  | [], ms, k, e, r, h => by
    have : min ([] : List Int).length ms.length = 0 := by simp
    rw [this]
    show decide (0 < ms.length) = HT.lexLt [] ms
    cases ms with
    | nil => rfl
    | cons y ys => rw [HT.lexLt_nil_cons]; simp
  | x :: xs, [], k, e, r, h => by
    show SeqAt.firstLt e r _ (List.range' k (min (xs.length + 1) 0)) = HT.lexLt (x :: xs) []
    rw [Nat.min_zero, HT.lexLt_cons_nil]
    rfl
  | x :: xs, y :: ys, k, e, r, h => by
    have hm : min (x :: xs).length (y :: ys).length = min xs.length ys.length + 1 := by simp [Nat.succ_min_succ]
    rw [hm, List.range'_succ, HT.lexLt_cons]
    obtain ⟨h1, h2⟩ := h 0 (by simp) (by simp)
    have h1 : e k = decide (x = y) := h1
    have h2 : r k = decide (x < y) := h2
    by_cases q : x = y
    · rw [if_pos q, SeqAt.firstLt_yes (by rw [h1]; exact decide_eq_true q)]
      have hd : decide ((x :: xs).length < (y :: ys).length) = decide (xs.length < ys.length) := by simp
      rw [hd]
      refine first_lex xs ys (k + 1) e r fun j j1 j2 => ?_
      have z := h (j + 1) (by simpa using j1) (by simpa using j2)
      have ek : k + 1 + j = k + (j + 1) := by omega
      rw [ek]
      exact z
    · rw [if_neg q, SeqAt.firstLt_no (by rw [h1]; exact decide_eq_false q), h2]
section
variable {prog : Program} {w : World} {A : Around} {s : Shared}
theorem vals_at {ns : List Int} {us : List Value} (r : Vals (ns.map V.int) us) {j : Nat} (h : j < us.length) : ∃ t, us[j] = .int (ns.getD j 0) t := by
  have hl : j < ns.length := by
    have := r.length
    rw [List.length_map] at this
    omega
  obtain ⟨u, hu, ru⟩ := r.get (i := j) (x := .int (ns.getD j 0)) (by rw [List.getElem?_map, List.getElem?_eq_getElem hl]; simp [List.getD_eq_getElem?_getD, List.getElem?_eq_getElem hl])
  obtain ⟨t, rfl⟩ := ru
  rw [List.getElem?_eq_getElem h] at hu
  exact ⟨t, Option.some.inj hu⟩
theorem int_beq (a b : Int) : (a == b) = decide (a = b) := by
  by_cases z : a = b <;> simp [z]
theorem lst_cmp {vs : List Value} {k : Value → List Int} (room : A.units + 1 < cLine) (hp : ∀ v ∈ vs, LstV s.heap v (k v)) : SrtO.Cmp prog w A s oneType' (fun p => p.1 ∈ vs) (SrtO.lt2 fun v u => HT.lexLt (k v) (k u)) := by
  intro p q hm hm'
  obtain ⟨a, us, e, hl, rv⟩ := hp _ hm
  obtain ⟨a', us', e', hl', rv'⟩ := hp _ hm'
  show wpAny (model prog w) A (keyLt' oneType' p.1 q.1) (fun r s' => s' = s ∧ r = HT.lexLt (k p.1) (k q.1)) (fun _ _ => False) s
  generalize k p.1 = xs at rv ⊢
  generalize k q.1 = ys at rv' ⊢
  rw [e, e', keyLt'_oneType, oneLt'_eq]
  simp only [if_true]
  have l1 : us.length = xs.length := by rw [← Paired.length rv, List.length_map]
  have l2 : us'.length = ys.length := by rw [← Paired.length rv', List.length_map]
  refine wpAny_bind (wpAny_cRoomFor (by omega) ?_)
  refine wpAny_bind (wpAny_callSpecialIfBound?_slot (T := "list") hl.typeIs PySem.F.slot_list_lt (SeqAt.call_list_lt (e := fun j => decide (xs.getD j 0 = ys.getD j 0)) (r := fun j => decide (xs.getD j 0 < ys.getD j 0)) hl hl' (fun j j1 j2 => ?_) (fun j j1 j2 hj => ?_) ?_))
  · obtain ⟨t, h1⟩ := vals_at rv (j := j) (by simpa using j1)
    obtain ⟨t', h2⟩ := vals_at rv' (j := j) (by simpa using j2)
    have g1 : (List.toArray us)[j] = us[j]'(by simpa using j1) := by simp
    have g2 : (List.toArray us')[j] = us'[j]'(by simpa using j2) := by simp
    rw [g1, g2, h1, h2]
    have := SeqAt.EqAt.int_int (A := A.in1) (s := s) (xs.getD j 0) t (ys.getD j 0) t'
    have eb : (xs.getD j 0 == ys.getD j 0) = decide (xs.getD j 0 = ys.getD j 0) := int_beq _ _
    rw [eb] at this
    exact this
  · obtain ⟨t, h1⟩ := vals_at rv (j := j) (by simpa using j1)
    obtain ⟨t', h2⟩ := vals_at rv' (j := j) (by simpa using j2)
    have g1 : (List.toArray us)[j] = us[j]'(by simpa using j1) := by simp
    have g2 : (List.toArray us')[j] = us'[j]'(by simpa using j2) := by simp
    rw [g1, g2, h1, h2]
    have := PySem.W.rcLt_alike (.int (xs.getD j 0)) (.int (ys.getD j 0)) A.in1 s (.int (xs.getD j 0) t) (.int (ys.getD j 0) t') [] [] (.int _ _) (.int _ _) (by rfl) (fun q => nomatch q) (by show A.units + 1 + 0 < cLine; omega)
    rw [PySem.W.dataLt_int] at this
    exact this
  · have fl := first_lex xs ys 0 (fun j => decide (xs.getD j 0 = ys.getD j 0)) (fun j => decide (xs.getD j 0 < ys.getD j 0)) fun j _ _ => ⟨by rw [Nat.zero_add], by rw [Nat.zero_add]⟩
    rw [← List.range_eq_range', ← l1, ← l2] at fl
    have fl : SeqAt.firstLt (fun j => decide (xs.getD j 0 = ys.getD j 0)) (fun j => decide (xs.getD j 0 < ys.getD j 0)) (decide ((List.toArray us).size < (List.toArray us').size)) (List.range (min (List.toArray us).size (List.toArray us').size)) = HT.lexLt xs ys := by
      simpa using fl
    rw [fl]
    exact wpAny_truthy_bool ⟨rfl, rfl⟩
theorem lsts_sortable {a : Addr} {vs : List Value} {k : Value → List Int} (h2 : 2 ≤ vs.length) (room : A.units + 1 < cLine) (hp : ∀ v ∈ vs, LstV s.heap v (k v)) (ha : ∀ v ∈ vs, v ≠ .ref a) : SrtO.SortableO prog w A s a vs fun v u => HT.lexLt (k v) (k u) := by
  intro h' keep
  have hp' : ∀ v ∈ vs, LstV h' v (k v) := fun v hm => (hp v hm).keeps fun b o e q => keep b o (fun z => ha v hm (by rw [e, z])) q
  refine ⟨oneType', fun Q E hq => ?_, lst_cmp (s := { s with heap := h' }) room hp'⟩
  refine PySem.W.kas_kind (s := { s with heap := h' }) (T := .type "list") h2 (fun v hm => ?_) (by decide +kernel) (by simp) hq
  obtain ⟨b, us, e, hl, _⟩ := hp' v hm
  obtain ⟨o, ho, hc, _⟩ := hl
  intro A Q E t kk q
  rw [e]
  exact wpAny_typeOf_ref (kk _ _ ho) (by rw [hc]; exact q)
end
theorem LstV.inj {h : Heap} {v : Value} {ns ms : List Int} (p : LstV h v ns) (q : LstV h v ms) : ns = ms := by
  obtain ⟨a, us, e, ⟨o, ho, _, n, hd⟩, r⟩ := p
  obtain ⟨a', us', e', ⟨o', ho', _, n', hd'⟩, r'⟩ := q
  rw [e] at e'
  cases e'
  rw [ho] at ho'
  cases ho'
  rw [hd] at hd'
  cases hd'
  exact vals_ints_inj r r'
def rSortLs (K : PySem.W.Frag) : List V → Hp → VK → Prop := fun xs H Q => ∃ (a : Addr) (L : List (Addr × List Int)), xs = [V.ref a] ∧ SqL K H a (L.map fun p => V.ref p.1) ∧ (∀ p ∈ L, SqL K H p.1 (p.2.map V.int)) ∧
  ∀ (L' : List (Addr × List Int)) (p : Addr), L'.Perm L → L'.Pairwise (fun q r => HT.lexLt r.2 q.2 = false) → H p = none → Q (.ref p) (upd H p (.lst (L'.map fun p => V.ref p.1)))
section
variable {X : Cx}
theorem lstV_of {pins : List (Addr × Obj)} {σ : L2.St} {H : Hp} {s : Shared} {a : Addr} {ns : List Int} (I : Inv X pins σ H s) (h : SqL X.K H a (ns.map V.int)) : LstV s.heap (.ref a) ns := by
  obtain ⟨its, r, hl, _⟩ := I.list h
  exact ⟨a, its, rfl, hl.isList, r⟩
theorem cr_sortedLs (hu : X.A.units + 64 < cLine) : CallR X (.builtin "sorted") (rSortLs X.K) := by
  intro pins s σ H xs us Q I r h
  obtain ⟨a, L, rfl, hs, hx, q⟩ := h
  obtain ⟨u, rfl, rx⟩ := r.one
  cases rx
  obtain ⟨its, rv, hl, hz⟩ := I.list hs
  have ei := refs_eq rv
  let k : Value → List Int := fun v => match L.find? (fun p => decide (p.1 = adV v)) with
    | some p => p.2
    | none => []
  have hk : ∀ p ∈ L, k (.ref p.1) = p.2 := fun p hp => by
    show (match L.find? (fun q => decide (q.1 = p.1)) with | some p => p.2 | none => []) = p.2
    cases e : L.find? (fun q => decide (q.1 = p.1)) with
    | none =>
      have := List.find?_eq_none.mp e p hp
      simp at this
    | some p' =>
      have h1 : p'.1 = p.1 := of_decide_eq_true (List.find?_some (p := fun q : Addr × List Int => decide (q.1 = p.1)) e)
      have h2 := List.mem_of_find?_eq_some e
      have t1 := lstV_of I (hx p' h2)
      have t2 := lstV_of I (hx p hp)
      rw [h1] at t1
      exact t1.inj t2
  have hv : ∀ v ∈ its, ∃ p ∈ L, v = .ref p.1 := fun v hm => by
    rw [ei] at hm
    obtain ⟨p, hp, rfl⟩ := List.mem_map.mp hm
    exact ⟨p, hp, rfl⟩
  have hz' : its.length ≤ sizeLine := by
    have : its.length = L.length := by rw [ei, List.length_map]
    rw [this]
    simpa using hz
  refine SrtO.sorted_ord (swo_tup k) hl.isList hz' (fun h2 h₁ b hb kk => ?_) fun out hs2 hb2 => ?_
  · refine lsts_sortable (s := { s with heap := h₁ }) h2 (by show X.A.units + 1 + 1 + 1 < cLine; omega) (fun v hm => ?_) fun v hm e => ?_
    · obtain ⟨p, hp, rfl⟩ := hv v hm
      rw [hk p hp]
      exact (lstV_of I (hx p hp)).keeps fun c o _ e => (kk c o e).2
    · obtain ⟨p, hp, rfl⟩ := hv v hm
      obtain ⟨_, _, e2, ⟨o, ho, _⟩, _⟩ := lstV_of I (hx p hp)
      cases e2
      exact (kk _ _ ho).1 (Value.ref.inj e)
  · have ho : ∀ v ∈ out, ∃ p ∈ L, v = .ref p.1 := fun v hm => hv v (hb2.perm.mem_iff.mp hm)
    let f : Value → Addr × List Int := fun v => (adV v, k v)
    have hf : ∀ p ∈ L, f (.ref p.1) = p := fun p hp => by
      show (p.1, k (.ref p.1)) = p
      rw [hk p hp]
    have pe : (out.map f).Perm L := by
      have p1 := hb2.perm.map f
      rw [ei, List.map_map] at p1
      have e2 : L.map (f ∘ fun p => Value.ref p.1) = L := by
        have : L.map (f ∘ fun p => Value.ref p.1) = L.map id := List.map_congr_left fun p hp => hf p hp
        rw [this, List.map_id]
      rw [e2] at p1
      exact p1
    have eo : (out.map f).map (fun p => Value.ref p.1) = out := by
      rw [List.map_map]
      have : out.map ((fun p : Addr × List Int => Value.ref p.1) ∘ f) = out.map id := List.map_congr_left fun v hm => by
        obtain ⟨p, hp, rfl⟩ := ho v hm
        rfl
      rw [this, List.map_id]
    have pw : (out.map f).Pairwise (fun q r => HT.lexLt r.2 q.2 = false) := by
      rw [List.pairwise_map]
      exact hs2.imp fun h => h
    have hn := I.hok.fresh (Nat.le_succ s.heap.objs.size)
    have ol : ((out.map f).map fun p => V.ref p.1).length ≤ sizeLine := by
      rw [List.length_map, List.length_map, hb2.perm.length_eq]
      exact hz'
    have rv2 : Vals ((out.map f).map fun p => V.ref p.1) out := by
      have := refs_vals (out.map f)
      rw [eo] at this
      exact this
    obtain ⟨n2, hat⟩ : ∃ n, (sortedAll s.heap its out.toArray).get? (s.heap.objs.size + 1) = some (seqObj "list" out.toArray n) := sortedAll_at s.heap its out.toArray
    exact ⟨.ref (s.heap.objs.size + 1), _, I.laid (t' := s.toks) (o := .lst ((out.map f).map fun p => V.ref p.1)) (fun b o e => sortedAll_old e) (Nat.le_succ _) ⟨ol, out, n2, rv2, hat⟩, rfl, q _ _ pe pw hn⟩
end
end TC

set_option Elab.async false
set_option linter.all false
set_option maxRecDepth 100000
set_option maxHeartbeats 2000000
/-! zip(tuple, list), both of one length. -/
namespace TC
open PySem PySem.Spec PyProof.Rows L2 RZ
section
variable {prog : Program} {w : World} {A : Around} {E : Value → Shared → Prop} {s : Shared} {zi ti tp i j a b : Addr} {m n : Nat} {xs ys : Array Value} {x y u v : Value}
/-- the zip at zi stands before places m and n -/
structure ZipAt (h : Heap) (zi ti tp i j a b : Addr) (u v : Value) (m n : Nat) : Prop where
  z : IsZip h zi ti tp .none
  p1 : IsPair h ti (.ref i) (.ref j)
  p2 : IsPair h tp u v
  t1 : h.IsTupleIter i a m
  t2 : h.IsListIter j b n
theorem zipM_step {Q : Value → Shared → Prop} (D : ZipApart zi ti tp i j a b) (Z : ZipAt s.heap zi ti tp i j a b u v m n) (la : s.heap.IsTuple a xs) (lb : s.heap.IsList b ys) (ex : xs[m]? = some x) (ey : ys[n]? = some y)
    (k : ∀ h', IsZip h' zi ti tp (rawInt s.heap.objs.size) → IsPair h' tp x y → h'.IsTupleIter i a (m + 1) → h'.IsListIter j b (n + 1) → IsPair h' s.heap.objs.size x y → h'.objs.size = s.heap.objs.size + 1 →
      (∀ c o, c ≠ zi → c ≠ tp → c ≠ i → c ≠ j → s.heap.get? c = some o → h'.get? c = some o) → Q (.ref s.heap.objs.size) { s with heap := h' }) :
    wpAny (model prog w) A (Builtin.«zip.__next__» ⟨[.ref zi], []⟩) (fun fin s' => ∃ v, fin = .done (.ret v) ∧ Q v s') E s := by
  obtain ⟨z, p1, p2, t1, t2⟩ := Z
  (show wpAny _ _ (field (.ref zi) 2 >>= _) _ _ _; refine wpAny_bind (wpAny_field z rfl (x := .bool false) rfl ?_))
  (show wpAny _ _ (field (.ref zi) 3 >>= _) _ _ _; refine wpAny_bind (wpAny_field z rfl (x := .ref ti) rfl ?_))
  refine wpAny_bind (wpAny_seqItems p1 rfl ?_)
  (show wpAny _ _ (Builtin.SmallTypes.ownedTupleIsFree (.ref zi) >>= _) _ _ _; refine wpAny_bind ?_; unfold Builtin.SmallTypes.ownedTupleIsFree)
  refine wpAny_bind (wpAny_field z rfl (x := .none) rfl (wpAny_pure ?_))
  (simp only [if_true]; refine wpAny_bind (wpAny_rule ?_))
  refine wpAny_bind (wpAny_field z rfl (x := .ref tp) rfl ?_)
  refine wpAny_bind (wpAny_setField_rec z (by simp) fun g1 z1 k1 => ?_)
  have z1 : IsZip g1 zi ti tp .ellipsis := z1
  (refine wpAny_bind ?_; simp only [List.zipIdx_cons, List.zipIdx_nil, List.forIn_cons, List.forIn_nil]; refine wpAny_bind (wpAny_bind (wpAny_onRaise ?_)))
  show wpAny _ _ (Builtin.SmallTypes.nextOf (.ref i) >>= _) _ _ _
  refine wpAny_bind (nextOf_tuple_item (t1.extBut k1.extBut D.i1z) (la.extBut k1.extBut D.l1z) ex fun g2 i2 k2 => wpAny_pure ?_)
  have q2 : IsPair g2 tp u v := k2.extBut _ _ D.TOi1 (k1.extBut _ _ D.TOz p2)
  refine wpAny_bind (wpAny_seqItems q2 rfl (wpAny_bind (wpAny_updateSeq_pair q2 fun g3 q3 k3 => ?_)))
  have q3 : IsPair g3 tp x v := q3
  (refine wpAny_bind (wpAny_letGo (wpAny_pure ?_)); refine wpAny_bind (wpAny_bind (wpAny_onRaise ?_)))
  show wpAny _ _ (Builtin.SmallTypes.nextOf (.ref j) >>= _) _ _ _
  have j3 := ((t2.extBut k1.extBut D.i2z).extBut k2.extBut D.i12.symm).extBut k3.extBut D.TOi2.symm
  have b3 := ((lb.extBut k1.extBut D.l2z).extBut k2.extBut D.l2i1).extBut k3.extBut D.l2TO
  refine wpAny_bind (wpAny_nextOf_list_item j3 b3 ey fun g4 j4 k4 => wpAny_pure ?_)
  have q4 : IsPair g4 tp x v := k4.extBut _ _ D.TOi2 q3
  refine wpAny_bind (wpAny_seqItems q4 rfl (wpAny_bind (wpAny_updateSeq_pair q4 fun g5 q5 k5 => ?_)))
  have q5 : IsPair g5 tp x y := q5
  refine wpAny_bind (wpAny_letGo (wpAny_pure (wpAny_pure (wpAny_bind (wpAny_seqItems q5 rfl (wpAny_bind (wpAny_newTuple ?_)))))))
  have sz : g5.objs.size = s.heap.objs.size := by rw [k5.1, k4.1, k3.1, k2.1, k1.1]
  have z5 : IsZip g5 zi ti tp .ellipsis := k5.extBut _ _ D.TOz.symm (k4.extBut _ _ D.i2z.symm (k3.extBut _ _ D.TOz.symm (k2.extBut _ _ D.i1z.symm z1)))
  have old : ∀ c o, c ≠ zi → c ≠ tp → c ≠ i → c ≠ j → s.heap.get? c = some o → g5.get? c = some o := fun c o e1 e2 e3 e4 q => k5.extBut _ _ e2 (k4.extBut _ _ e4 (k3.extBut _ _ e2 (k2.extBut _ _ e3 (k1.extBut _ _ e1 q))))
  have i5 : g5.IsTupleIter i a (m + 1) := ((i2.extBut k3.extBut D.TOi1.symm).extBut k4.extBut D.i12).extBut k5.extBut D.TOi1.symm
  have j5 : g5.IsListIter j b (n + 1) := j4.extBut k5.extBut D.TOi2.symm
  have zlt : zi < g5.objs.size := Heap.lt_size z5
  (show wpAny _ _ (Builtin.SmallTypes.ownedTupleHandOut (.ref zi) (.ref g5.objs.size) >>= _) _ _ _; refine wpAny_bind ?_; unfold Builtin.SmallTypes.ownedTupleHandOut)
  have z6 : IsZip (g5.push { cls := .type "tuple", data := .seq #[x, y] }) zi ti tp .ellipsis := Heap.get?_push_of_some _ z5
  refine wpAny_bind (wpAny_setField_rec z6 (by simp) fun g7 z7 k7 => ?_)
  have z7 : IsZip g7 zi ti tp (rawInt g5.objs.size) := z7
  refine wpAny_setField_rec z7 (by simp) fun g8 z8 k8 => ?_
  have z8 : IsZip g8 zi ti tp (rawInt g5.objs.size) := z8
  have up : ∀ c o, c ≠ zi → g5.get? c = some o → g8.get? c = some o := fun c o e1 q => k8.extBut _ _ e1 (k7.extBut _ _ e1 (Heap.get?_push_of_some _ q))
  have new8 : IsPair g8 g5.objs.size x y := k8.extBut _ _ (Nat.ne_of_gt zlt) (k7.extBut _ _ (Nat.ne_of_gt zlt) (Heap.get?_push_size _ rfl))
  have sz8 : g8.objs.size = g5.objs.size + 1 := by rw [k8.1, k7.1, Heap.size_push]
  rw [sz] at z8 new8 sz8
  refine wpAny_pure ⟨_, rfl, (show Q (.ref g5.objs.size) _ from ?_)⟩
  rw [sz]
  exact k g8 z8 (up _ _ D.TOz q5) (i5.at fun o q => up _ o D.i1z q) (j5.at fun o q => up _ o D.i2z q) new8 sz8 fun c o e1 e2 e3 e4 q => up c o e1 (old c o e1 e2 e3 e4 q)
theorem zipM_stop {Q : Fin → Shared → Prop} (hh : A.handled = none) (D : ZipApart zi ti tp i j a b) (Z : ZipAt s.heap zi ti tp i j a b u v m n) (la : s.heap.IsTuple a xs) (ex : xs[m]? = none)
    (k : ∀ h' e, (∀ c o, c ≠ zi → c ≠ tp → c ≠ i → c ≠ j → s.heap.get? c = some o → h'.get? c = some o) → (∃ o, h'.get? e = some o ∧ o.cls = .type "StopIteration") → E (.ref e) { s with heap := h' }) :
    wpAny (model prog w) A (Builtin.«zip.__next__» ⟨[.ref zi], []⟩) Q E s := by
  obtain ⟨z, p1, p2, t1, t2⟩ := Z
  (show wpAny _ _ (field (.ref zi) 2 >>= _) _ _ _; refine wpAny_bind (wpAny_field z rfl (x := .bool false) rfl ?_))
  (show wpAny _ _ (field (.ref zi) 3 >>= _) _ _ _; refine wpAny_bind (wpAny_field z rfl (x := .ref ti) rfl ?_))
  refine wpAny_bind (wpAny_seqItems p1 rfl ?_)
  (show wpAny _ _ (Builtin.SmallTypes.ownedTupleIsFree (.ref zi) >>= _) _ _ _; refine wpAny_bind ?_; unfold Builtin.SmallTypes.ownedTupleIsFree)
  refine wpAny_bind (wpAny_field z rfl (x := .none) rfl (wpAny_pure ?_))
  (simp only [if_true]; refine wpAny_bind (wpAny_rule ?_))
  refine wpAny_bind (wpAny_field z rfl (x := .ref tp) rfl ?_)
  refine wpAny_bind (wpAny_setField_rec z (by simp) fun g1 z1 k1 => ?_)
  have z1 : IsZip g1 zi ti tp .ellipsis := z1
  (refine wpAny_bind ?_; simp only [List.zipIdx_cons, List.zipIdx_nil, List.forIn_cons, List.forIn_nil]; refine wpAny_bind (wpAny_bind (wpAny_onRaise ?_)))
  show wpAny _ _ (Builtin.SmallTypes.nextOf (.ref i) >>= _) _ _ _
  refine wpAny_bind (nextOf_tuple_end hh (t1.extBut k1.extBut D.i1z) (la.extBut k1.extBut D.l1z) ex fun g2 e k2 he => ?_)
  obtain ⟨o, ho, hc⟩ := he
  have z2 : IsZip g2 zi ti tp .ellipsis := k2 _ _ D.i1z.symm z1
  have ne : e ≠ zi := fun q => by
    subst q
    rw [z2] at ho
    cases ho
    simp at hc
  exact wpAny_setField_rec z2 (by simp) fun g3 _ k3 => k g3 e (fun c o e1 _ e3 _ q => k3.extBut _ _ e1 (k2 _ _ e3 (k1.extBut _ _ e1 q))) ⟨o, k3.extBut _ _ ne ho, hc⟩
theorem nextM_item {Q : Option Value → Shared → Prop} (D : ZipApart zi ti tp i j a b) (Z : ZipAt s.heap zi ti tp i j a b u v m n) (la : s.heap.IsTuple a xs) (lb : s.heap.IsList b ys) (ex : xs[m]? = some x) (ey : ys[n]? = some y)
    (k : ∀ h', IsZip h' zi ti tp (rawInt s.heap.objs.size) → IsPair h' tp x y → h'.IsTupleIter i a (m + 1) → h'.IsListIter j b (n + 1) → IsPair h' s.heap.objs.size x y → h'.objs.size = s.heap.objs.size + 1 →
      (∀ c o, c ≠ zi → c ≠ tp → c ≠ i → c ≠ j → s.heap.get? c = some o → h'.get? c = some o) → Q (some (.ref s.heap.objs.size)) { s with heap := h' }) :
    wpAny (model prog w) A (pyNext (.ref zi)) Q E s := by
  have ty : s.TypeIs (.ref zi) "zip" := ⟨_, Z.z, rfl⟩
  unfold pyNext
  exact wpAny_bind (wpAny_attempt (wpAny_callSpecial?_slot (name := Str.ofString "__next__") ty F.slot_zip_next (wpAny_call_entry F.slot_zip_next ty F.entry_zip_next (zipM_step D Z la lb ex ey fun h' a1 a2 a3 a4 a5 a6 a7 => wpAny_pure (k h' a1 a2 a3 a4 a5 a6 a7)) (F.args_zip_next_1 _))))
theorem nextM_end {Q : Option Value → Shared → Prop} (hh : A.handled = none) (D : ZipApart zi ti tp i j a b) (Z : ZipAt s.heap zi ti tp i j a b u v m n) (la : s.heap.IsTuple a xs) (ex : xs[m]? = none)
    (k : ∀ h', (∀ c o, c ≠ zi → c ≠ tp → c ≠ i → c ≠ j → s.heap.get? c = some o → h'.get? c = some o) → Q none { s with heap := h' }) : wpAny (model prog w) A (pyNext (.ref zi)) Q E s := by
  have ty : s.TypeIs (.ref zi) "zip" := ⟨_, Z.z, rfl⟩
  unfold pyNext
  refine wpAny_bind (wpAny_attempt (wpAny_callSpecial?_slot (name := Str.ofString "__next__") ty F.slot_zip_next (wpAny_call_entry F.slot_zip_next ty F.entry_zip_next (zipM_stop hh D Z la ex fun h' e old he => ?_) (F.args_zip_next_1 _))))
  obtain ⟨o, ho, hc⟩ := he
  exact wpAny_bind (wpAny_isInstance (T := "StopIteration") (b := true) ⟨o, ho, hc⟩ isSubtype_stop (wpAny_pure (k _ old)))
end
end TC

set_option Elab.async false
set_option linter.all false
set_option maxRecDepth 100000
set_option maxHeartbeats 2000000
namespace TC
open PySem PySem.Spec PyProof.Rows L2 RZ
abbrev zm1 (h : Heap) (a : Addr) : Heap := h.push { cls := .type "tuple_iterator", data := .fields #[.ref a, .int 0 0] }
abbrev zm2 (h : Heap) (a b : Addr) : Heap := (zm1 h a).push { cls := .type "list_iterator", data := .fields #[.ref b, .int 0 0] }
abbrev zm3 (h : Heap) (a b : Addr) : Heap := (zm2 h a b).push { cls := .type "tuple", data := .seq #[.ref h.objs.size, .ref (zm1 h a).objs.size] }
abbrev zm4 (h : Heap) (a b : Addr) : Heap := (zm3 h a b).push { cls := .type "tuple", data := .seq #[.none, .none] }
abbrev zm5 (h : Heap) (a b : Addr) : Heap := (zm4 h a b).push { cls := .type "zip", data := .fields #[.none, .bool false, .bool false, .ref (zm2 h a b).objs.size, .ref (zm3 h a b).objs.size] }
theorem meets_zipM (a b : Addr) (xs ys : Array Value) : Meets (Builtin.«zip.__new__» ⟨[.type "zip", .ref a, .ref b], []⟩) (fun _ R s => s.heap.IsTuple a xs ∧ s.heap.IsList b ys ∧ R (.ok (.ret (.ref (zm4 s.heap a b).objs.size))) { s with heap := zm5 s.heap a b }) :=
  .of_wp fun prog w A R s h => by
    obtain ⟨hp, g, d, tk, os⟩ := s
    obtain ⟨la, lb, h⟩ := h
    have hsub := sub_zip
    have la' : Heap.IsTuple (Shared.heap ⟨hp, g, d, tk, os⟩) a xs := la
    have lb' : Heap.IsList (Shared.heap ⟨hp.push { cls := .type "tuple_iterator", data := .fields #[.ref a, .int 0 0] }, g, d, tk, os⟩) b ys := Heap.IsList.push lb _
    wp_walk using wpAny_pyIter_tuple la', wpAny_pyIter_list lb'
    exact ⟨_, rfl, h⟩
section
variable {prog : Program} {w : World} {A : Around} {E : Value → Shared → Prop} {s : Shared}
theorem call_zipM {a b : Addr} {xs ys : Array Value} {Q : Value → Shared → Prop} (la : s.heap.IsTuple a xs) (lb : s.heap.IsList b ys)
    (k : ∀ h', ZipAt h' (s.heap.objs.size + 4) (s.heap.objs.size + 2) (s.heap.objs.size + 3) s.heap.objs.size (s.heap.objs.size + 1) a b .none .none 0 0 → (∀ c o, s.heap.get? c = some o → h'.get? c = some o) → Q (.ref (s.heap.objs.size + 4)) { s with heap := h' }) :
    wpAny (model prog w) A (call (.type "zip") [.ref a, .ref b]) Q E s := by
  refine callType_new F.called_zip (by decide) (F.typeCall_zip_2 _ _) (F.newCall_zip_2 _ _) (fun obj => F.args_object_init_3 obj _ _) F.entry_zip_new (meets_zipM a b xs ys) ⟨la, lb, ?_⟩
  have s1 : (zm1 s.heap a).objs.size = s.heap.objs.size + 1 := Heap.size_push ..
  have s2 : (zm2 s.heap a b).objs.size = s.heap.objs.size + 2 := by rw [Heap.size_push, s1]
  have s3 : (zm3 s.heap a b).objs.size = s.heap.objs.size + 3 := by rw [Heap.size_push, s2]
  have s4 : (zm4 s.heap a b).objs.size = s.heap.objs.size + 4 := by rw [Heap.size_push, s3]
  have o5 : (zm5 s.heap a b).get? (zm4 s.heap a b).objs.size = some _ := Heap.get?_push_size _ rfl
  have o4 : (zm5 s.heap a b).get? (zm3 s.heap a b).objs.size = some _ := Heap.get?_push_of_some _ (Heap.get?_push_size _ rfl)
  have o3 : (zm5 s.heap a b).get? (zm2 s.heap a b).objs.size = some _ := Heap.get?_push_of_some _ (Heap.get?_push_of_some _ (Heap.get?_push_size _ rfl))
  have o2 : (zm5 s.heap a b).get? (zm1 s.heap a).objs.size = some _ := Heap.get?_push_of_some _ (Heap.get?_push_of_some _ (Heap.get?_push_of_some _ (Heap.get?_push_size _ rfl)))
  have o1 : (zm5 s.heap a b).get? s.heap.objs.size = some _ := Heap.get?_push_of_some _ (Heap.get?_push_of_some _ (Heap.get?_push_of_some _ (Heap.get?_push_of_some _ (Heap.get?_push_size _ rfl))))
  have old : ∀ c o, s.heap.get? c = some o → (zm5 s.heap a b).get? c = some o := fun c o x => Heap.get?_push_of_some _ (Heap.get?_push_of_some _ (Heap.get?_push_of_some _ (Heap.get?_push_of_some _ (Heap.get?_push_of_some _ x))))
  refine (show _ ∧ _ from ?_)
  rw [s2, s3, s4] at o5
  rw [s3] at o4
  rw [s1, s2] at o3
  rw [s1] at o2
  rw [s4]
  exact ⟨⟨_, o5, rfl⟩, k _ ⟨o5, o3, o4, ⟨_, o1, rfl, rfl⟩, ⟨_, o2, rfl, rfl⟩⟩ old⟩
end
/-- the tuple at a, the list at b as they stand at each turn -/
def ItM (K : PySem.W.Frag) (a b : Addr) : It :=
  ⟨fun i H => ∃ (xs ys : List V) (x y : V), SqT K H a xs ∧ SqL K H b ys ∧ xs[i]? = some x ∧ ys[i]? = some y,
    fun i H v H' => ∃ T x y, v = .ref T ∧ H T = none ∧ H' = upd H T (.tup [x, y]) ∧ (∀ xs, SqT K H a xs → xs[i]? = some x) ∧ ∀ ys, SqL K H b ys → ys[i]? = some y,
    fun i H => ∃ xs : List V, SqT K H a xs ∧ xs.length ≤ i⟩
theorem five {c z p q r t : Nat} {P : Nat → Prop} (h : c ∈ [z, p, q, r, t]) (h1 : P z) (h2 : P p) (h3 : P q) (h4 : P r) (h5 : P t) : P c := by
  simp only [List.mem_cons, List.not_mem_nil, or_false] at h
  rcases h with rfl | rfl | rfl | rfl | rfl <;> assumption
theorem turn_zipM {P : Program} {w : World} {K : PySem.W.Frag} {elts : List Expr} {kk : Nat} {tpos : Pos} {a b zi ti tp i1 i2 : Addr} (D : ZipApart zi ti tp i1 i2 a b) :
    Turn P w K (.Tuple elts kk tpos) (ItM K a b) [zi, ti, tp, i1, i2] zi (fun i h => ∃ u v, ZipAt h zi ti tp i1 i2 a b u v i i) where
  mem := by simp
  obj := fun i h st c hc => by
    obtain ⟨u, v, z, p1, p2, ⟨o1, e1, _, d1⟩, ⟨o2, e2, _, d2⟩⟩ := st
    simp only [List.mem_cons, List.not_mem_nil, or_false] at hc
    rcases hc with q | q | q | q | q <;> rw [q]
    · exact ⟨_, z, fun v q => nomatch q⟩
    · exact ⟨_, p1, fun v q => nomatch q⟩
    · exact ⟨_, p2, fun v q => nomatch q⟩
    · exact ⟨o1, e1, fun v q => (by rw [d1] at q; cases q)⟩
    · exact ⟨o2, e2, fun v q => (by rw [d2] at q; cases q)⟩
  keep := fun i h h' st k => by
    obtain ⟨u, v, z, p1, p2, t1, t2⟩ := st
    exact ⟨u, v, k zi (by simp) _ z, k ti (by simp) _ p1, k tp (by simp) _ p2, t1.at fun o q => k i1 (by simp) o q, t2.at fun o q => k i2 (by simp) o q⟩
  item := by
    intro X hP hw hK hc i pins s σ H E I hf st hg
    subst hP hw hK
    obtain ⟨u0, v0, Z⟩ := st
    obtain ⟨xs, ys, x, y, hqx, hqy, hx, hy⟩ := hg
    obtain ⟨its, rv, p, _⟩ := I.tuple hqx
    obtain ⟨its2, rv2, p2, _⟩ := I.list hqy
    obtain ⟨u, hu, ru⟩ := rv.get hx
    obtain ⟨u2, hu2, ru2⟩ := rv2.get hy
    have zlt : zi < s.heap.objs.size := Heap.lt_size Z.z
    refine nextM_item D Z p p2.isList (x := u) (y := u2) (by simpa using hu) (by simpa using hu2) fun h' z' q' t1' t2' new sz k => ?_
    refine ⟨_, rfl, wpAny_letOwnedTupleGo_zip (s := { s with heap := h' }) z' fun h'' z'' sb => ?_⟩
    have new2 : h''.get? s.heap.objs.size = some { cls := .type "tuple", data := .seq #[u, u2] } := (sb.2 _ (Nat.ne_of_gt zlt)).trans new
    have I1 : Inv X pins σ (upd H s.heap.objs.size (.tup [x, y])) { s with heap := h'' } := I.turnedNew (t' := s.toks) (ch := [zi, ti, tp, i1, i2]) (fun c o hb q => by
      have q1 : c ≠ zi := fun e => hb (by simp [e])
      exact (sb.2 c q1).trans (k c o q1 (fun e => hb (by simp [e])) (fun e => hb (by simp [e])) (fun e => hb (by simp [e])) q)) hf (Nat.le_refl _) ⟨by show 2 ≤ sizeLine; decide, [u, u2], .cons ru (.cons ru2 .nil), ⟨_, new2, rfl, _, rfl⟩⟩
    refine ⟨.ref s.heap.objs.size, _, I1, rfl, ⟨_, x, y, rfl, I.hok.fresh (Nat.le_refl _), rfl, fun l hl => by rw [I.tuple_inj hl hqx]; exact hx, fun l hl => by rw [I.list_inj hl hqy]; exact hy⟩, ⟨u, u2, z'', ?_, ?_, ?_, ?_⟩, fun c hcm => ?_⟩
    · exact (sb.2 _ D.TIz).trans (k _ _ D.TIz D.TITO D.TIi1 D.TIi2 Z.p1)
    · exact (sb.2 _ D.TOz).trans q'
    · exact t1'.at fun o q => (sb.2 _ D.i1z).trans q
    · exact t2'.at fun o q => (sb.2 _ D.i2z).trans q
    · obtain ⟨o1, e1, _⟩ := Z.t1
      obtain ⟨o2, e2, _⟩ := Z.t2
      have lt : c < s.heap.objs.size := five (P := fun c => c < s.heap.objs.size) hcm zlt (Heap.lt_size Z.p1) (Heap.lt_size Z.p2) (Heap.lt_size e1) (Heap.lt_size e2)
      rw [upd_ne (Nat.ne_of_lt lt)]
      exact (hf c hcm).1
  done := by
    intro X hP hw hK hc i pins s σ H E I hf st hg
    subst hP hw hK
    obtain ⟨u0, v0, Z⟩ := st
    obtain ⟨xs, hqx, le⟩ := hg
    obtain ⟨its, rv, p, _⟩ := I.tuple hqx
    have l1 := rv.length
    exact nextM_end (I.ok.hd hc) D Z p (by simp; omega) fun h' k => ⟨rfl, I.turnedL (t' := s.toks) (ch := [zi, ti, tp, i1, i2]) (fun c o hb q => k c o (fun e => hb (by simp [e])) (fun e => hb (by simp [e])) (fun e => hb (by simp [e])) (fun e => hb (by simp [e])) q) hf⟩
  self := fun A i s Q E st h => by
    obtain ⟨u, v, Z⟩ := st
    exact wpAny_pyIter_zip Z.z h
end TC

set_option Elab.async false
set_option linter.all false
set_option maxRecDepth 100000
set_option maxHeartbeats 2000000
namespace TC
open PySem PySem.Spec PyProof.Rows L2 RZ
def iZipM (K : PySem.W.Frag) (ta : TA) : TI := fun σ H R => ta σ H fun vs H1 => ∃ a b xs ys, vs = [V.ref a, V.ref b] ∧ SqT K H1 a xs ∧ SqL K H1 b ys ∧ R (ItM K a b) H1
theorem pi_zipM {X : Cx} {e e2 : Expr} {ta : TA} {p pos tpos : Pos} {elts : List Expr} {kk : Nat} (hg : Gl X "zip") (hm : X.mg "zip" = none) (ha : PA X [e, e2] ta)
    (st : starEach [e, e2] X.env = (false, eval e X.env) :: starEach [e2] X.env := by rfl) (pl : (backTo pos (starEach [e2] X.env)).any (·.1) = false := by rfl) :
    PI X (.Tuple elts kk tpos) (.Call (.Name "zip" p) [e, e2] [] pos) (iZipM X.K ta) := by
  refine ⟨fun pins s σ H R I w => Call_ (ld_blt I hg hm PyProof.Rows.boot_zip (PyProof.Rows.callWith_type1 (thn (ha.run pos pins s σ H _ I w) fun us s1 ⟨vs, H1, I1, r1, q1⟩ => ?_) st pl))⟩
  obtain ⟨a, b, xs, ys, rfl, hx, hy, q⟩ := q1
  cases r1 with
  | cons r rr =>
    cases rr with
    | cons r' rr =>
      cases rr
      cases r
      cases r'
      obtain ⟨its, rv, p1, _⟩ := I1.tuple hx
      obtain ⟨its2, rv2, p2, _⟩ := I1.list hy
      obtain ⟨o1, ho1, _⟩ := id p1
      refine call_zipM (show s1.heap.IsTuple a its.toArray from p1) p2.isList fun h' Z k => wpAny_pyIter_zip Z.z ?_
      have I2 : Inv X pins σ H1 { s1 with heap := h' } := I1.kept (t' := s1.toks) k
      refine ⟨s1.heap.objs.size + 4, [s1.heap.objs.size + 4, s1.heap.objs.size + 2, s1.heap.objs.size + 3, s1.heap.objs.size, s1.heap.objs.size + 1], _, ItM X.K a b, H1, rfl, I2, turn_zipM (PySem.W.ktu_apart s1.heap.objs.size a b (Heap.lt_size ho1) p2.lt), ⟨_, _, Z⟩, fun c hc => ?_, q⟩
      have le : s1.heap.objs.size ≤ c := by
        simp only [List.mem_cons, List.not_mem_nil, or_false] at hc
        rcases hc with q | q | q | q | q <;> rw [q] <;> first | exact Nat.le_refl _ | exact Nat.le_add_right _ _
      exact I1.fpOk le (I1.hok.fresh le)
theorem wk_zipM {K : PySem.W.Frag} {a b : Addr} {xs ys : List V} (hl : xs.length = ys.length) : WkP (ItM K a b) (xs.zip ys) (fun H => SqT K H a xs ∧ SqL K H b ys) where
  go := fun i H h lt => by
    rw [List.length_zip] at lt
    have l1 : i < xs.length := by omega
    have l2 : i < ys.length := by omega
    exact ⟨xs, ys, xs[i], ys[i], h.1, h.2, List.getElem?_eq_getElem l1, List.getElem?_eq_getElem l2⟩
  yl := fun i H x H' h lt y => by
    obtain ⟨T, x', y', rfl, hT, rfl, f1, f2⟩ := y
    exact ⟨T, _, (x', y'), List.getElem?_zip_eq_some.mpr ⟨f1 xs h.1, f2 ys h.2⟩, rfl, hT, .inl rfl, rfl⟩
  stop := fun i H h e => ⟨xs, h.1, by rw [List.length_zip] at e; omega⟩
/-- zip(t, l) -/
def wZip (wa : DA) : DPr := fun Γ μ R Z => wa Γ μ (fun ds μ1 => match ds with
  | [.tup as, .lst bs] => as.length = bs.length ∧ R (as.zip bs) μ1
  | _ => False) Z
section
variable {X : Cx} {C : Cfg} {W : WX} {e e2 : Expr} {wa : DA}
theorem di_zipM {elts : List Expr} {kk : Nat} {p pos tpos : Pos} (hK : X.K = C.K) (hg : Gl X "zip") (hm : X.mg "zip" = none) (ha : DAs X C W [e, e2] wa)
    (st : starEach [e, e2] X.env = (false, eval e X.env) :: starEach [e2] X.env := by rfl) (pl : (backTo pos (starEach [e2] X.env)).any (·.1) = false := by rfl) :
    DIP X C W (.Tuple elts kk tpos) (.Call (.Name "zip" p) [e, e2] [] pos) (wZip wa) := PI.imp (pi_zipM hg hm ha st pl) fun σ H Q ⟨α, Γ, μ, R, Z, r, w, k, z⟩ => by
  refine ⟨α, Γ, μ, _, Z, r, w, fun ds vs α1 μ1 H1 w1 r1 m1 i1 => ?_, z⟩
  split at w1
  · rename_i as bs
    obtain ⟨hl, w1⟩ := w1
    cases i1 with
    | cons ia i1 =>
      cases i1 with
      | cons ib i1 =>
        cases i1
        cases ia with
        | tup ha qa =>
          cases ib with
          | lst hb qb =>
            rw [hK]
            have l1 := qa.length
            have l2 := qb.length
            refine ⟨_, _, _, _, rfl, gk_ex.t ha.sq, SqL.of (gk_ex _ _ hb), k _ _ _ _ _ α1 μ1 H1 w1 r1 m1 ?_ ?_ (wk_zipM (by omega)) fun α2 μ2 H2 m2 => ⟨gk_ex.t (m2.ex.t ha.sq), SqL.of (gk_ex _ _ (m2.ex _ _ hb))⟩⟩
            · rw [List.map_fst_zip (Nat.le_of_eq hl)]
              exact qa
            · rw [List.map_snd_zip (Nat.le_of_eq hl.symm)]
              exact qb
  · exact w1.elim
end
end TC

set_option Elab.async false
set_option linter.all false
set_option maxRecDepth 100000
set_option maxHeartbeats 2000000
/-! {k: v for a, b in pairs} -/
namespace TC
open PySem PySem.Spec PyProof.Rows L2
theorem dcp_wk {K : PySem.W.Frag} {J : It} {xs : List (V × V)} {G : Hp → Prop} (k : WkP J xs G) {g : TG} {tt : TT} {tk tv : TE} {vs : List Nat} {σ : L2.St} {H1 : Hp} {T : Addr} {Qd : Hp → Prop} (Pv : Nat → Hp → Prop) (h0 : Pv 0 (upd H1 T (.ext (DictI T [])))) (hl : ∀ i H, Pv i H → G H)
    (hs : ∀ i p H S u, xs[i]? = some p → Pv i H → H S = none → IsPr u p → g (.ref S) (L2.wipe σ vs) (upd H S u) fun σ2 H2 => L2.wipe σ2 vs = L2.wipe σ vs ∧ tt σ2 H2 fun b H3 => if b = true then tk σ2 H3 fun y H4 => tv σ2 H4 fun z H5 => rDSetI K (.ref T) y z H5 (Pv (i + 1)) else Pv (i + 1) H3) (hd : ∀ H, Pv xs.length H → Qd H) :
    ∃ W : Nat → Nat → Hp → Prop, (∃ m, W 0 m (upd H1 T (.ext (DictI T [])))) ∧ ∀ i m H, W i m H →
      (J.stop i H ∧ Qd H) ∨ (J.go i H ∧ ∃ Nx : Hp → Prop, (∀ H', Nx H' → ∃ m', m' < m ∧ W (i + 1) m' H') ∧ ∀ x H', J.yld i H x H' → g x (L2.wipe σ vs) H' fun σ2 H2 => L2.wipe σ2 vs = L2.wipe σ vs ∧ tt σ2 H2 fun b H3 => if b = true then tk σ2 H3 fun y H4 => tv σ2 H4 fun z H5 => rDSetI K (.ref T) y z H5 Nx else Nx H3) := by
  refine ⟨fun i m H => m = xs.length - i ∧ i ≤ xs.length ∧ Pv i H, ⟨xs.length, by simp, Nat.zero_le _, h0⟩, ?_⟩
  rintro i m H ⟨rfl, hi, p⟩
  have q := hl i H p
  rcases Nat.lt_or_ge i xs.length with lt | ge
  · refine .inr ⟨k.go i H q lt, Pv (i + 1), fun H' p' => ⟨xs.length - (i + 1), by omega, rfl, lt, p'⟩, fun x H' y => ?_⟩
    obtain ⟨S, u, pr, e1, e2, e3, e4, e5⟩ := k.yl i H x H' q lt y
    subst e2 e5
    exact hs i pr H S u e1 p e3 e4
  · obtain rfl : i = xs.length := by omega
    exact .inl ⟨k.stop _ H q rfl, hd H p⟩
def wDcPL (i j : Nat) (wk we : DX) : List (D × D) → List (List Int) → List D → Gam → Mem → (List (List Int) → List D → Mem → Prop) → Prop
  | [], ks, ds, _, μ, R => R ks ds μ
  | x :: xs, ks, ds, Γw, μ, R => wk ((Γw.set i (some x.1)).set j (some x.2)) (μ ++ [Cell.dt ks ds]) (fun y μ2 => μ2 = μ ++ [Cell.dt ks ds] ∧ we ((Γw.set i (some x.1)).set j (some x.2)) (μ ++ [Cell.dt ks ds]) (fun d μ3 => μ3 = μ ++ [Cell.dt ks ds] ∧ d.pure = true ∧ match keyD y with
      | some k => wDcPL i j wk we xs (putD ks ds k d).1 (putD ks ds k d).2 Γw μ R
      | none => False) Z0) Z0
def wDcP (i j : Nat) (ws : DPr) (wk we : DX) : DX := fun Γ μ R Z => ws Γ μ (fun xs μ1 => xs.length ≤ big ∧ wDcPL i j wk we xs [] [] (wipeG Γ [i, j]) μ1 fun ks ds μ2 => R (.dt ks ds) μ2) Z
section
variable {X : Cx} {C : Cfg} {W : WX} {ke ve tg iter : Expr} {scope : Scope} {own : List (Str × Nat)} {pos : Pos} {i j : Nat} {ws : DPr} {wk we : DX}
theorem wipe_pair {σ : L2.St} {x y : V} (hij : i ≠ j) : L2.wipe (((L2.wipe σ [i, j]).set i (some x)).set j (some y)) [i, j] = L2.wipe σ [i, j] := by
  have hji : j ≠ i := Ne.symm hij
  show List.set (List.set (List.set (List.set (List.set (List.set σ j none) i none) i (some x)) j (some y)) j none) i none = List.set (List.set σ j none) i none
  rw [List.set_set, List.set_set, List.set_comm none none hji, List.set_comm none none hji]
  simp [List.set_set, List.set_comm _ _ hij]
theorem dcp_main {σ : L2.St} {H : Hp} {Q : VK} (hij : i ≠ j) (h : canE C W (wDcP i j ws wk we) σ H Q) :
    tDcI C.K (canIP C W ws) (gPair C.K i j) (canT C W0 wYes) (canE C W0 wk) (canE C W0 we) [i, j] σ H fun v H1 => ∃ d u, v = .ref d ∧ H1 d = some u ∧ Mut (some u) ∧ ∀ od, Q v (upd H1 d (.frz od u)) := by
  obtain ⟨α, Γ, μ, R, Z, r, w, k, z⟩ := h
  refine ⟨α, Γ, μ, _, Z, r, w, fun ps us vs J G α1 μ1 H1 w1 r1 m1 iu iw k1 g1 T hT => ?_, z⟩
  obtain ⟨hz, w1⟩ := w1
  have l1 := iu.length
  have l2 := iw.length
  rw [List.length_map] at l1 l2
  have hlen : (us.zip vs).length = ps.length := by rw [List.length_zip, ← l1, ← l2, Nat.min_self]
  refine dcp_wk k1 (fun q H' => ∃ (ks : List (List Int)) (ds : List D), Rl C (α1 ++ [T]) (L2.wipe σ [i, j]) H' (wipeG Γ [i, j]) (μ1 ++ [Cell.dt ks ds]) ∧ Mv C α1 μ1 H1 (α1 ++ [T]) (μ1 ++ [Cell.dt ks ds]) H' ∧ pures ds = true ∧ ks.length ≤ q ∧ q ≤ ps.length ∧
    wDcPL i j wk we (ps.drop q) ks ds (wipeG Γ [i, j]) μ1 fun ks ds μ2 => R (.dt ks ds) μ2) ?_ ?_ ?_ ?_
  · obtain ⟨r2, m2⟩ := (r1.wipe [i, j]).grow (o := .ext (DictI T [])) (c := .dt [] []) hT ⟨[], [], upd_same, ⟨rfl, (fun x hx => by cases hx), Paired.nil⟩, Iss.nil⟩ (fun q => nomatch q)
    exact ⟨[], [], r2, m2, rfl, Nat.zero_le _, Nat.zero_le _, w1⟩
  · rintro q H' ⟨ks, ds, _, m, _⟩
    exact g1 _ _ _ m
  · rintro q pr H' S u hx ⟨ks, ds, r2, m2, hp, hl, hi, w2⟩ hS hu0
    obtain ⟨hu, hw⟩ := List.getElem?_zip_eq_some.mp hx
    obtain ⟨d1, hd1, id1⟩ := iu.get' hu
    obtain ⟨d2, hd2, id2⟩ := iw.get' hw
    obtain ⟨dp, hdp, e1, e2⟩ : ∃ dp, ps[q]? = some dp ∧ dp.1 = d1 ∧ dp.2 = d2 := by
      rw [List.getElem?_map] at hd1 hd2
      cases e : ps[q]? with
      | none => rw [e] at hd1; cases hd1
      | some dp =>
        rw [e] at hd1 hd2
        exact ⟨dp, rfl, Option.some.inj hd1, Option.some.inj hd2⟩
    subst e1 e2
    obtain ⟨hlt, he⟩ := List.getElem?_eq_some_iff.mp hdp
    rw [List.drop_eq_getElem_cons hlt, he] at w2
    unfold wDcPL at w2
    have ex : Ex H' (upd H' S u) := ex_new hS
    have r3 := r2.ext ex
    have m3 : Mv C α1 μ1 H1 (α1 ++ [T]) (μ1 ++ [Cell.dt ks ds]) (upd H' S u) := m2.trans (Mv.ext ex)
    refine ⟨S, [pr.1, pr.2], rfl, .inl hu0.rd, rfl, pr.1, [pr.2], rfl, pr.2, [], rfl, rfl, wipe_pair hij, ?_⟩
    have r4 := (r3.setv (i := i) (m3.is id1)).setv (i := j) (m3.is id2)
    refine ⟨_, _, _, fun b μ' => b = true ∧ μ' = μ1 ++ [Cell.dt ks ds], Z0, r4, ⟨rfl, rfl⟩, fun b α4 μ4 H4 w4 r5 m4 => ?_, fun cl α' Γ' μ' σ' H' z _ _ => z⟩
    obtain ⟨rfl, em⟩ := w4
    subst em
    have ea := same_addrs r4 r5 m4 rfl
    subst ea
    have back : ∀ {Hx : Hp} {Γx : Gam} {σx : L2.St} {ks' : List (List Int)} {ds' : List D}, Rl C (α1 ++ [T]) σx Hx Γx (μ1 ++ [.dt ks' ds']) → Mv C (α1 ++ [T]) (μ1 ++ [Cell.dt ks ds]) H' (α1 ++ [T]) (μ1 ++ [.dt ks' ds']) Hx → Rl C (α1 ++ [T]) (L2.wipe σ [i, j]) Hx (wipeG Γ [i, j]) (μ1 ++ [.dt ks' ds']) := fun {Hx Γx σx ks' ds'} rx mx =>
      rx.senv r2.slen fun j e q => by
        obtain ⟨v, h1, h2⟩ := r2.env j e q
        exact ⟨v, h1, mx.is h2⟩
    rw [if_pos rfl]
    refine ⟨_, _, _, _, Z0, r5, w2, fun y yv α5 μ5 H5 w5 r6 m5 i5 => ?_, fun cl α' Γ' μ' σ' H' z _ _ => z⟩
    obtain ⟨em, w5⟩ := w5
    subst em
    have ea := same_addrs r5 r6 m5 rfl
    subst ea
    refine ⟨_, _, _, _, Z0, r6, w5, fun e ev α6 μ6 H6 w6 r7 m6 i6 => ?_, fun cl α' Γ' μ' σ' H' z _ _ => z⟩
    obtain ⟨em, hpe, w6⟩ := w6
    subst em
    have ea := same_addrs r6 r7 m6 rfl
    subst ea
    split at w6
    · rename_i kk hkk
      obtain ⟨bb, rfl, tk⟩ := key_is (m6.is i5) hkk
      have ha : (α1 ++ [T])[α1.length]? = some T := by simp
      have hm : (μ1 ++ [Cell.dt ks ds])[α1.length]? = some (.dt ks ds) := by rw [r1.len]; simp
      obtain ⟨m, vs', h1, h2, h3⟩ := r7.cells _ _ _ ha hm
      have ml : m.length = ks.length := by rw [← h2.1, List.length_map]
      refine ⟨T, m, bb, kk, rfl, rfl, ⟨h1, h2.kd (.inl h1) gk_ex⟩, gk_ex.tupd tk, by rw [ml]; exact big_lt (by omega), fun u ru => ?_⟩
      obtain ⟨vs2, p1, p2⟩ := put_ok (b := bb) h2 h3 tk ru i6
      obtain ⟨r8, m8⟩ := r7.write (c := .dt (putD ks ds kk e).1 (putD ks ds kk e).2) ha (by rw [hm]; exact fun q => nomatch q) ⟨_, vs2, upd_same, p1, p2⟩ (fun q => nomatch q)
      have em : (μ1 ++ [Cell.dt ks ds]).set α1.length (.dt (putD ks ds kk e).1 (putD ks ds kk e).2) = μ1 ++ [Cell.dt (putD ks ds kk e).1 (putD ks ds kk e).2] := by
        rw [r1.len]
        simp
      rw [em] at r8 m8
      have mm := (((Mv.ext ex).trans (m4.trans m5)).trans m6).trans m8
      have pl := putD_len ks ds kk e
      exact ⟨_, _, back r8 mm, m2.trans mm, putD_pures hpe hp, by omega, hlt, w6⟩
    · exact w6.elim
  · rintro H' ⟨ks, ds, r2, m2, hp, hl, hi, w2⟩
    rw [hlen, List.drop_length] at w2
    obtain ⟨m0, e0, rest⟩ := Rl.restD r1 hT r2 m2 hp
    refine ⟨T, _, rfl, e0, True.intro, fun od => ?_⟩
    obtain ⟨r3, m3, i3⟩ := rest od
    exact k _ _ _ _ _ w2 r3 (m1.trans m3) i3
theorem de_dcp (hK : X.K = C.K) (room : X.A.units < cLine) (hc : X.calm = true) (hN : X.N.Nodup) (hi : DIP X C W tg iter ws) (ok : BlkOk X.N X.env.scope scope own) (ho : own.map (·.2) = [i, j]) (hij : i ≠ j)
    (hg : ∀ (s : Shared) (H : Hp) (A : Addr) (cl : List (Str × Addr)) (fp : List Addr), PG (X.blk s H scope (compEnvC scope cl A X.env) fp) tg (gPair X.K i j))
    (hk : ∀ (s : Shared) (H : Hp) (A : Addr) (cl : List (Str × Addr)) (fp : List Addr), DE (X.blk s H scope (compEnvC scope cl A X.env) fp) C W0 ke wk)
    (hv : ∀ (s : Shared) (H : Hp) (A : Addr) (cl : List (Str × Addr)) (fp : List Addr), DE (X.blk s H scope (compEnvC scope cl A X.env) fp) C W0 ve we) (hs : ∀ x, foldedSetIterable iter X.env x = pure x := by intro _; rfl) :
    DE X C W (.DictComp ke ve [⟨tg, iter, [], 0⟩] scope pos) (wDcP i j ws wk we) := by
  have q := pe_frzT (pe_dcI (pos := pos) room hc hN hi ok hg (fun s H A cl fp => dts_nil (C := C) (W := W0)) hk hv hs)
  refine PE.imp q fun σ H Q h => ?_
  rw [ho, hK]
  exact dcp_main hij h
end
end TC
namespace TC
open PySem PySem.Spec PyProof.Rows L2
def lrows (ks : List (List Int)) : List D := ks.map fun k => .lst (k.map D.int)
theorem lrows_is {K : PySem.W.Frag} {S : Sts} {α : List Addr} {G : Hp} : ∀ {ks : List (List Int)} {vs : List V}, Iss K S α G (lrows ks) vs → ∃ L : List (Addr × List Int), L.map (·.2) = ks ∧ vs = L.map (fun p => V.ref p.1) ∧ ∀ p ∈ L, G p.1 = some (.lst (p.2.map V.int))
  | [], _, .nil => ⟨[], rfl, rfl, fun p h => nomatch h⟩
  | k :: ks, _, .cons h r => by
    obtain ⟨L, e1, rfl, h2⟩ := lrows_is (ks := ks) r
    cases h with
    | lst h q =>
      have := q.ints
      subst this
      refine ⟨(_, k) :: L, by rw [List.map_cons, e1], rfl, fun p hp => ?_⟩
      rcases List.mem_cons.mp hp with rfl | hp
      · exact h
      · exact h2 p hp
theorem is_lrows {K : PySem.W.Frag} {S : Sts} {α : List Addr} {G : Hp} : ∀ {L : List (Addr × List Int)}, (∀ p ∈ L, G p.1 = some (.lst (p.2.map V.int))) → Iss K S α G (lrows (L.map (·.2))) (L.map fun p => V.ref p.1)
  | [], _ => .nil
  | p :: L, h => .cons (.lst (h p (List.mem_cons_self ..)) (Iss.of_ints _)) (is_lrows fun q hq => h q (List.mem_cons_of_mem _ hq))
/-- sorted(rows), rows at rest or not -/
def dSortLs : List D → Mem → RD → Prop := fun ds μ R => match ds with
  | [x] => ∃ ks : List (List Int), items x μ = some (lrows ks) ∧ (∀ ys, x ≠ .tup ys) ∧ ∀ ks' : List (List Int), ks'.Perm ks → ks'.Pairwise (fun a b => HT.lexLt b a = false) → R (.lst (lrows ks')) μ
  | _ => False
theorem sn_sortLs {C : Cfg} : SndCall C (rSortLs C.K) dSortLs := by
  intro ds vs α σ H Γ μ R Q r i w k
  unfold dSortLs at w
  split at w
  · obtain ⟨v, rfl, h⟩ := iss1 i
    obtain ⟨ks, hi, nt, w⟩ := w
    have fin : ∀ {p : Addr} {xs : List V}, H p = some (.lst xs) → Iss C.K C.S α (gk C α μ H) (lrows ks) xs → v = .ref p → rSortLs C.K [v] H Q := fun {p xs} hp q e => by
      obtain ⟨L, rfl, rfl, hT⟩ := lrows_is q
      refine ⟨p, L, by rw [e], SqL.of hp, fun q hq => SqL.of (gk_ex _ _ (hT q hq)), fun L' p' g1 g2 hp' => ?_⟩
      obtain ⟨r2, m2, i2⟩ := r.lst hp' (is_lrows fun q hq => hT q (g1.mem_iff.mp hq))
      exact k _ _ _ _ _ (w (L'.map (·.2)) (g1.map _) (by rw [List.pairwise_map]; exact g2)) r2 m2 i2
    cases h with
    | lst h q =>
      cases hi
      exact fin (gk_ex _ _ h) q rfl
    | tup h q => exact absurd rfl (nt _)
    | scr h =>
      rename_i ns
      have hi : some (ns.map D.int) = some (lrows ks) := hi
      cases ns with
      | nil =>
        cases ks with
        | nil =>
          refine ⟨_, [], rfl, gk_ex.l h, (fun p hp => nomatch hp), fun L' p' g1 g2 hp' => ?_⟩
          have e : L' = [] := List.Perm.eq_nil g1
          subst e
          obtain ⟨r2, m2, i2⟩ := r.lst hp' (ds := lrows []) (xs := []) .nil
          exact k _ _ _ _ _ (w [] (List.Perm.refl _) List.Pairwise.nil) r2 m2 i2
        | cons b bs => simp [lrows] at hi
      | cons n ns =>
        cases ks with
        | nil => simp [lrows] at hi
        | cons b bs => simp [lrows] at hi
    | mt hk =>
      rename_i n
      have hi : (match μ[n]? with | some (.lst ds) => some ds | _ => none) = some (lrows ks) := hi
      split at hi
      · rename_i ds hm
        cases hi
        obtain ⟨xs, h1, h2⟩ := r.cells _ _ _ hk hm
        exact fin h1 h2 rfl
      · cases hi
    | _ => cases hi
  · exact w.elim
end TC

set_option Elab.async false
set_option linter.all false
set_option maxRecDepth 100000
set_option maxHeartbeats 2000000
/-! Commutators and leadings: rules still lacking, and what the defs are to do. -/
namespace TC
open PySem PySem.Spec PyProof.Rows L2
theorem ru64 {k : Nat} {A : Around} (r : Room k A) : A.units + 64 < cLine := by
  have := r.un
  omega
def wOrS (w1 w2 : DS) : DS := fun Γ μ P => w1 Γ μ P ∨ w2 Γ μ P
section
variable {X : Cx} {C : Cfg} {W : WX} {st : Stmt} {w1 w2 : DS}
theorem own_name2 {i j : Nat} (hij : i ≠ j) : OwnG C (gName i) (fun d Γ => some (Γ.set i (some d))) [i, j] := ⟨fun α σ H Γ μ d v Q Γ' r is e k => by
  cases e
  refine k _ (r.setv is) ?_
  show List.set (List.set (List.set (List.set (List.set σ j none) i none) i (some v)) j none) i none = List.set (List.set σ j none) i none
  rw [List.set_set, List.set_comm none none (Ne.symm hij)]
  simp [List.set_set, List.set_comm _ _ hij]⟩
end
theorem ds_or {X : Cx} {C : Cfg} {W : WX} {st : Stmt} {w1 w2 : DS} (h1 : DSt X C W st w1) (h2 : DSt X C W st w2) : DSt X C W st (wOrS w1 w2) := ⟨fun pins s σ H D I h => by
  obtain ⟨α, Γ, μ, P, r, w, rest⟩ := h
  rcases w with w | w
  · exact h1.run pins s σ H D I ⟨α, Γ, μ, P, r, w, rest⟩
  · exact h2.run pins s σ H D I ⟨α, Γ, μ, P, r, w, rest⟩⟩
/-! ### what the defs are to do -/
def seqM (x : D) (μ : Mem) (ts : List (List Int)) : Prop := (∃ k, x = .mt k ∧ μ[k]? = some (.lst (ts.map tI))) ∨ x = .lst (ts.map tI)
def s6_letters_of (A : Adr) : SpM := fun ds μ R _ => ∃ x ts n, ds = [x] ∧ seqM x μ ts ∧ ts.length ≤ 1000 ∧ (∀ t ∈ ts, Tn n t) ∧ R (.dt (lettersF 0 ts ([], [])).1 (lettersF 0 ts ([], [])).2) (μ ++ [.dead])
/-- a word's pairs: numbers below m, ways -/
def pairsOk (m : Nat) (w : List D) : Prop := w.length ≤ 1000 ∧ ∃ ps : List (Nat × Int), w = ps.map (fun p => D.tup [.int (p.1 : Int), .int p.2]) ∧ ∀ p ∈ ps, p.1 < m ∧ (p.2 = 1 ∨ p.2 = -1)
def s6_words_of (A : Adr) : SpM := fun ds μ R _ => ∃ x ts, ∃ n : Nat, ds = [x, .int n] ∧ seqM x μ ts ∧ ts.length ≤ 1000 ∧ (2 ≤ n ∧ n ≤ 5) ∧ (∀ t ∈ ts, Tn n t) ∧ ∀ ks ws (e : Mem), WordsOk n ts ks ws → (∀ w ∈ ws, pairsOk ts.length w) → ws.getD (ks.idxOf (rgL n)) [] = [] → R (.dt ks (wsD ws)) (μ ++ e)
/-- a few: each new to what came of those ahead, so that the group has twice as many at least for each -/
def s6_few_and_all (A : Adr) : SpD := fun ds R _ => ∃ x ts, ∃ n : Nat, ds = [x, .int n] ∧ isRow x ts ∧ ts.length ≤ 1000 ∧ (2 ≤ n ∧ n ≤ 5) ∧ (∀ t ∈ ts, Tn n t) ∧
  ∀ few g, (∀ t ∈ few, t ∈ ts) → GrpOk n ts g → GrpOk n few g → 2 ^ few.length ≤ g.length → R (.tup [.lst (few.map tI), .tup (g.map tI)])
/-- what a group is asked for: refused, or of one size -/
def grpIn (x : D) (ok : Nat → List (List Int) → Prop) (no : Prop) : Prop := okD x = true ∧ (∀ xs, x = .tup xs → xs.length ≤ 1000 ∧ ∀ d ∈ xs, okT d = true) ∧ ((∀ n, 2 ≤ n → n ≤ 5 → ¬ IsGrp n x) → no) ∧ ∀ (n : Nat) (g : List (List Int)), 2 ≤ n → n ≤ 5 → x = .tup (g.map tI) → (∀ t ∈ g, Tn n t) → GrpOk n g g → ok n g
def sp_need_group (A : Adr) : SpD := fun ds R Z => ∃ x ss, ds = [x, ss] ∧ ss = d_SIZES ∧ grpIn x (fun n _ => R (.int (n : Int))) (Z A.c_NoGroup)
def commL (a b : List Int) : List Int := putL (putL a b) (putL (backL a) (backL b))
def ComOk (n : Nat) (g c : List (List Int)) : Prop := ∃ cs : List (List Int), (∀ t, t ∈ cs ↔ ∃ a b, a ∈ g ∧ b ∈ g ∧ t = commL a b) ∧ GrpOk n cs c
def sp_commuted (A : Adr) : SpD := fun ds R Z => ∃ x, ds = [x] ∧ grpIn x (fun n g => ∀ c, ComOk n g c → R (.tup (c.map tI))) (Z A.c_NoGroup)
def inZ (m : Nat) (v : Int) : Prop := 0 ≤ v ∧ v < m
def sp_number_rows (A : Adr) : SpD := fun ds R _ => ∃ k m : Nat, ds = [.int k, .int m] ∧ k ≤ 7 ∧ (m = 2 ∨ m = 3) ∧ ∀ rows : List (List Int), rows.length ≤ 2187 → (∀ r ∈ rows, r.length = k ∧ ∀ v ∈ r, inZ m v) → R (.lst (lrows rows))
def valL (ks : List (List Int)) (vs : List Int) (t : List Int) : Int := vs.getD (ks.idxOf t) 0
def sp_told_by (A : Adr) : SpD := fun ds R _ => ∃ (ks : List (List Int)) (ws : List (List D)) (ns : List Int) (m : Nat), ds = [.dt ks (wsD ws), .lst (ns.map D.int), .int m] ∧ ks.Nodup ∧ ks.length = ws.length ∧ ks.length ≤ 1000 ∧ (∀ w ∈ ws, pairsOk ns.length w) ∧ (∀ v ∈ ns, inZ m v) ∧ (m = 2 ∨ m = 3) ∧
  ∀ vs : List Int, vs.length = ks.length → (∀ v ∈ vs, inZ m v) → (∀ t ∈ ks, ws.getD (ks.idxOf t) [] = [] → valL ks vs t = 0) → R (.dt ks (vs.map D.int))
/-- sums are told of one of these put into one of those -/
def HomOk (m : Nat) (f : List Int → Int) (g few : List (List Int)) : Prop := ∀ t ∈ g, ∀ u ∈ few, f (putL t u) = (f t + f u) % (m : Int)
def sp_is_leading (A : Adr) : SpD := fun ds R _ => ∃ (ks : List (List Int)) (vs : List Int) (few : List (List Int)) (n m : Nat), ds = [.dt ks (vs.map D.int), .lst (few.map tI), .int m] ∧ ks.Nodup ∧ vs.length = ks.length ∧ ks.length ≤ 1000 ∧ (∀ t ∈ ks, Tn n t) ∧ (∀ u ∈ few, Tn n u ∧ u ∈ ks) ∧ (∀ t ∈ ks, ∀ u ∈ few, putL t u ∈ ks) ∧ (∀ v ∈ vs, inZ m v) ∧ (m = 2 ∨ m = 3) ∧
  ∀ b : Bool, (b = true ↔ HomOk m (valL ks vs) ks few) → R (.bl b)
/-- the values of a leading to numbers below m, along a group -/
def LeadOk (m : Nat) (g : List (List Int)) (r : List Int) : Prop := r.length = g.length ∧ (∀ v ∈ r, inZ m v) ∧ (∀ n, GrpOk n g g → valL g r (rgL n) = 0) ∧ ∃ few : List (List Int), (∀ t ∈ few, t ∈ g) ∧ (∀ n, GrpOk n g g → GrpOk n few g) ∧ HomOk m (valL g r) g few
def sp_leading_rows (A : Adr) : SpD := fun ds R Z => ∃ x, ∃ m : Nat, ds = [x, .int m] ∧ (m = 2 ∨ m = 3) ∧ grpIn x (fun n g => ∀ rows : List (List Int), rows.length ≤ 2187 → (∀ r ∈ rows, LeadOk m g r) → R (.lst (lrows rows))) (Z A.c_NoGroup)
def sp_leadings (A : Adr) : SpD := fun ds R Z => ∃ x, ds = [x] ∧ grpIn x (fun n g => ∀ rows : List (List Int), rows.length ≤ 2187 → (∀ r ∈ rows, LeadOk 2 g r) → R (.lst (rows.map fun r => .dt g (r.map fun v => D.int (1 - 2 * v))))) (Z A.c_NoGroup)
def sp_thirds (A : Adr) : SpD := fun ds R Z => ∃ x, ds = [x] ∧ grpIn x (fun n g => ∀ rows : List (List Int), rows.length ≤ 2187 → (∀ r ∈ rows, LeadOk 3 g r) → R (.lst (rows.map fun r => .dt g (r.map D.int)))) (Z A.c_NoGroup)
/-! the law's own -/
def s6_law_pick (A : Adr) : SpD := fun ds R _ => ∃ (x : D) (xs : List D), ds = [.st, x] ∧ seqD x = some xs ∧ xs ≠ [] ∧ xs.length ≤ 1000 ∧ pures xs = true ∧ ∀ d ∈ xs, R d
def s6_law_closed (A : Adr) : SpM := fun ds μ R _ => ∃ x ts, ∃ n : Nat, ds = [x, .int n] ∧ seqM x μ ts ∧ ts.length ≤ 1000 ∧ (2 ≤ n ∧ n ≤ 5) ∧ (∀ t ∈ ts, Tn n t) ∧ ∀ g (e : Mem), GrpOk n ts g → R (.tup (g.map tI)) (μ ++ e)
/-- the least group that has cs and with each one that put about by ts -/
inductive Nrm (n : Nat) (cs ts : List (List Int)) : List Int → Prop
  | e : Nrm n cs ts (rgL n)
  | g {c : List Int} : c ∈ cs → Nrm n cs ts c
  | p {a b : List Int} : Nrm n cs ts a → Nrm n cs ts b → Nrm n cs ts (putL a b)
  | r {a t : List Int} : Nrm n cs ts a → t ∈ ts → Nrm n cs ts (putL (putL (backL t) a) t)
def NrmOk (n : Nat) (cs ts g : List (List Int)) : Prop := g.Pairwise ltL ∧ ∀ t, t ∈ g ↔ Nrm n cs ts t
def sp_law_normal (A : Adr) : SpD := fun ds R _ => ∃ (cs ts : List (List Int)) (n : Nat), ds = [.lst (cs.map tI), .lst (ts.map tI), .int n] ∧ cs.length ≤ 100 ∧ ts.length ≤ 200 ∧ (2 ≤ n ∧ n ≤ 5) ∧ (∀ t ∈ cs, Tn n t) ∧ (∀ t ∈ ts, Tn n t) ∧ ∀ g, NrmOk n cs ts g → R (.tup (g.map tI))
def sp_law_commutator (A : Adr) : SpD := fun ds R _ => ∃ (a b : List Int) (n : Nat), ds = [tI a, tI b] ∧ Tn n a ∧ Tn n b ∧ R (tI (putL (putL (putL a b) (backL a)) (backL b)))
def sp_law_commutators (A : Adr) : SpD := fun ds R _ => ∃ (ts : List (List Int)) (n : Nat), ds = [.lst (ts.map tI)] ∧ ts.length ≤ 10 ∧ (∀ t ∈ ts, Tn n t) ∧ ∀ cs : List (List Int), cs.length ≤ 100 → (∀ t ∈ cs, Tn n t) → (∀ c ∈ cs, ∃ a ∈ ts, ∃ b ∈ ts, c = putL (putL (putL a b) (backL a)) (backL b)) →
  (∀ i j : Nat, i < j → j < ts.length → putL (putL (putL (ts.getD i []) (ts.getD j [])) (backL (ts.getD i []))) (backL (ts.getD j [])) ∈ cs) → R (.lst (cs.map tI))
def sp_law_makers (A : Adr) : SpD := fun ds R _ => ∃ (g : List (List Int)) (n : Nat), ds = [.tup (g.map tI), .int n] ∧ (2 ≤ n ∧ n ≤ 5) ∧ (∀ t ∈ g, Tn n t) ∧ GrpOk n g g ∧ ∀ ts : List (List Int), ts.length ≤ 7 → (∀ t ∈ ts, t ∈ g) → GrpOk n ts g → R (.lst (ts.map tI))
def sp_law_not_a_group (A : Adr) : SpD := fun ds R _ => ∃ (g : List (List Int)) (n : Nat), ds = [.st, .tup (g.map tI)] ∧ (2 ≤ n ∧ n ≤ 5) ∧ (∀ t ∈ g, Tn n t) ∧ GrpOk n g g ∧ R (.bl true)
def sp_law_counts_for_nothing (A : Adr) : SpD := fun ds R _ => ∃ (g c : List (List Int)) (n : Nat), ds = [.st, .tup (g.map tI), .tup (c.map tI)] ∧ (2 ≤ n ∧ n ≤ 5) ∧ (∀ t ∈ g, Tn n t) ∧ GrpOk n g g ∧ ComOk n g c ∧ R (.bl true)
end TC

set_option Elab.async false
set_option linter.all false
set_option maxRecDepth 100000
set_option maxHeartbeats 2000000
/-! for x in l, l a list of the caller's own, that nobody changes meanwhile. -/
namespace TC
open PySem PySem.Spec PyProof.Rows L2
def wForML (k : Nat) (xs : List D) (j : Nat) (body : DS) : List D → DS
  | [], Γ, μ, P => μ[k]? = some (.lst xs) ∧ P.nx Γ μ
  | x :: r, Γ, μ, P => μ[k]? = some (.lst xs) ∧ body (Γ.set j (some x)) μ ⟨fun Γ' μ' => wForML k xs j body r Γ' μ' P, P.rt, P.nx, fun Γ' μ' => wForML k xs j body r Γ' μ' P, P.rz⟩
theorem wForML_at {k : Nat} {xs : List D} {j : Nat} {body : DS} {r : List D} {Γ : Gam} {μ : Mem} {P : Post} (h : wForML k xs j body r Γ μ P) : μ[k]? = some (.lst xs) := by
  cases r with
  | nil => exact h.1
  | cons x r => exact h.1
def wForM (j : Nat) (wa : DX) (body : DS) : DS := fun Γ μ P => wa Γ μ (fun d μ1 => match d with
  | .mt k => ∃ xs, μ1[k]? = some (.lst xs) ∧ wForML k xs j body xs Γ μ1 P
  | _ => False) P.rz
theorem wForML_go {k : Nat} {xs : List D} {j : Nat} {body : DS} {P : Post} (I : List D → Gam → Mem → Prop) (at_ : ∀ r Γ μ, I r Γ μ → μ[k]? = some (.lst xs)) (fin : ∀ Γ μ, I [] Γ μ → P.nx Γ μ)
    (step : ∀ x r Γ μ, I (x :: r) Γ μ → (nx : Gam → Mem → Prop) → (∀ Γ' μ', I r Γ' μ' → nx Γ' μ') → body (Γ.set j (some x)) μ ⟨nx, P.rt, P.nx, nx, P.rz⟩) : ∀ (ds : List D) (Γ : Gam) (μ : Mem), I ds Γ μ → wForML k xs j body ds Γ μ P
  | [], Γ, μ, h => ⟨at_ _ _ _ h, fin Γ μ h⟩
  | x :: r, Γ, μ, h => ⟨at_ _ _ _ h, step x r Γ μ h _ fun Γ' μ' h' => wForML_go I at_ fin step r Γ' μ' h'⟩
section
variable {X : Cx} {C : Cfg} {W : WX} {a : Expr} {wa : DX} {tg : Expr} {j : Nat} {fpos : Pos} {body : List Stmt} {wb : DS}
theorem ds_forM (hK : X.K = C.K) (hp : PassesOwn (model X.prog X.w) X.A X.env X.xe) (hc : X.calm = true) (ha : DE X C W a wa) (hg : PG X tg (gName j)) (hb : DSs X C W body wb) (hs : ∀ x, foldedSetIterable a X.env x = pure x := by intro _; rfl) :
    DSt X C W (.For tg a body [] fpos) (wForM j wa wb) := (ps_for hp hc (pi_any ha) hg hb hs).imp fun D σ H ⟨α, Γ, μ, P, r, w, n, t, b, c, z⟩ => by
  refine ⟨α, Γ, μ, _, _, r, w, fun d v α1 μ1 H1 w1 r1 m1 i1 => ?_, z⟩
  split at w1
  · rename_i k
    obtain ⟨xs, hx, w1⟩ := w1
    cases i1 with
    | @mt ad _ hk =>
      have look : ∀ {α' : List Addr} {μ' : Mem} {H' : Hp} {σ' : L2.St} {Γ' : Gam}, Rl C α' σ' H' Γ' μ' → Mv C α1 μ1 H1 α' μ' H' → μ'[k]? = some (.lst xs) → ∃ zs, H' ad = some (.lst zs) ∧ Iss C.K C.S α' (gk C α' μ' H') xs zs := fun r' m' h' => by
        obtain ⟨zs, e1, e2⟩ := r'.cells k ad _ (m'.pre _ _ hk) h'
        exact ⟨zs, e1, e2⟩
      obtain ⟨zs, e1, e2⟩ := look r1 Mv.refl hx
      refine ⟨ad, rfl, .inl ⟨⟨zs, SqL.of e1⟩, ?_⟩⟩
      refine ⟨fun q m σ' H' => m = xs.length - q ∧ q ≤ xs.length ∧ ∃ α' Γ' μ', Rl C α' σ' H' Γ' μ' ∧ Mv C α1 μ1 H1 α' μ' H' ∧ wForML k xs j wb (xs.drop q) Γ' μ' P, ⟨xs.length, by simp, Nat.zero_le _, α1, Γ, μ1, r1, Mv.refl, w1⟩, ?_⟩
      rintro q m σ' H' ⟨rfl, hq, α', Γ', μ', r', m', w'⟩
      obtain ⟨ys, f1, f2⟩ := look r' m' (wForML_at w')
      have lys := f2.length
      rcases Nat.lt_or_ge q xs.length with lt | ge
      · right
        refine ⟨⟨ys, ys[q]'(by omega), SqL.of f1, List.getElem?_eq_getElem (by omega)⟩, fun σ2 H2 => ∃ α' Γ' μ', Rl C α' σ2 H2 Γ' μ' ∧ Mv C α1 μ1 H1 α' μ' H2 ∧ wForML k xs j wb (xs.drop (q + 1)) Γ' μ' P, fun σ2 H2 h2 => ⟨xs.length - (q + 1), by omega, rfl, lt, h2⟩, ?_⟩
        rintro x H2 ⟨rfl, hv⟩
        have hv := hv ys (SqL.of f1)
        obtain ⟨d, hd, id⟩ := f2.get' hv
        obtain ⟨hlt, he⟩ := List.getElem?_eq_some_iff.mp hd
        rw [List.drop_eq_getElem_cons hlt, he] at w'
        obtain ⟨_, w'⟩ := w'
        refine ⟨α', _, μ', _, r'.setv id, w', fun α3 Γ3 μ3 σ3 H3 w3 r3 m3 => ⟨α3, Γ3, μ3, r3, m'.trans m3, w3⟩, fun d v α3 Γ3 μ3 σ3 H3 w3 r3 m3 i3 => t d v α3 Γ3 μ3 σ3 H3 w3 r3 ((m1.trans m').trans m3) i3,
          fun α3 Γ3 μ3 σ3 H3 w3 r3 m3 => n α3 Γ3 μ3 σ3 H3 w3 r3 ((m1.trans m').trans m3), fun α3 Γ3 μ3 σ3 H3 w3 r3 m3 => ⟨α3, Γ3, μ3, r3, m'.trans m3, w3⟩, z.mv (m1.trans m')⟩
      · left
        obtain rfl : q = xs.length := by omega
        rw [List.drop_length] at w'
        exact ⟨⟨ys, SqL.of f1, by omega⟩, n α' Γ' μ' σ' H' w'.2 r' (m1.trans m')⟩
  · exact w1.elim
end
end TC

set_option Elab.async false
set_option linter.all false
set_option maxRecDepth 100000
set_option maxHeartbeats 4000000
/-! Rules still lacking: isinstance, tuple, == and in of dicts keyed by tuples, order of lists, numbers in a range. -/
namespace TC
open PySem PySem.Spec PyProof.Rows L2
section
variable {X : Cx}
def rIsiDI : List V → Hp → VK → Prop := fun xs H Q => ∃ (a : Addr) (m : List Ent) (c : String) (b : Bool), xs = [.ref a, .ty c] ∧ DRd H a m ∧ kitB "dict" c = some b ∧ Q (.bl b) H
theorem call_isiDI : CallR X (.builtin "isinstance") rIsiDI := by
  intro pins s σ H xs us Q I r h
  obtain ⟨a, m, c, b, rfl, hd, e, q⟩ := h
  obtain ⟨u1, u2, rfl, r1, r2⟩ := vals2 r
  cases (show u1 = Value.ref a from r1)
  cases (show u2 = Value.type c from r2)
  obtain ⟨_, o, es, ep, ho, hx, _⟩ := dict_at I hd
  exact PySem.W.kia_one (PySem.W.kitx_dict (K := X.K)) I.kIn ⟨o, ho, hx.1⟩ (kit_ty e) (fun z => nomatch z) fun tk => ⟨.bl b, H, I.tok tk, rfl, q⟩
def dIsiDI : List D → Mem → RD → Prop := fun ds μ R => match ds with
  | [x, .ty c] => match dtOf x μ with
    | some _ => (["int", "bool", "tuple", "list", "str", "dict"].contains c) = true ∧ R (.bl (isi "dict" c)) μ
    | none => False
  | _ => False
theorem sn_isiDI {C : Cfg} : SndCall C rIsiDI dIsiDI := by
  intro ds vs α σ H Γ μ R Q r i w k
  unfold dIsiDI at w
  split at w
  · rename_i x c
    obtain ⟨v, u, rfl, h1, h2⟩ := iss2 i
    cases h2
    split at w
    · rename_i p hd
      obtain ⟨ks, ds'⟩ := p
      obtain ⟨hc, w⟩ := w
      obtain ⟨a, m, vs', rfl, h1, _, _⟩ := r.dict h1 hd
      exact ⟨a, m, c, _, rfl, h1, isi_ok "dict" (by decide) c (by simpa using hc), k _ _ _ _ _ w r Mv.refl (.bl _)⟩
    · exact w.elim
  · exact w.elim
/-! tuple(d) -/
theorem code_tuple_kdl {prog : Program} {w : World} {A : Around} {E : Value → Shared → Prop} {s : Shared} {T : String} {r d : Addr} {n : Nat} {P : Nat → Value → Prop} {OK : Heap → Prop} {Q₁ : Value → Shared → Prop} (K : PySem.W.KdlSrc prog w T r d n P OK) (hh : A.handled = none) (hok : OK s.heap) (hn : n ≤ sizeLine)
    (h : ∀ (h' : Heap) (tk : Nat) (acc : Array Value), (∀ b o, s.heap.get? b = some o → h'.get? b = some o) → ItemsOf P acc n → Q₁ (.ref h'.objs.size) { s with heap := h'.push { cls := .type "tuple", data := .seq acc }, toks := tk }) :
    codeAny (model prog w) A (.call (.builtin "tuple.__new__") ⟨[.type "tuple", .ref r], []⟩) (wants Q₁ E) s := by
  refine codeAny_of_tree ?_
  show wpAny _ A.in1 (do checkBuiltinCall "tuple.__new__" ⟨[.type "tuple", .ref r], []⟩; again (.builtin "tuple.__new__" ⟨[.type "tuple", .ref r], []⟩)) _ _ s
  refine wpAny_bind (wpAny_of_eq (F.newCall_tuple_1 _) (wpAny_pure ⟨plainId_quiet F.plain_tuple_new _, codeAny_builtin F.entry_tuple_new ?_⟩))
  rw [Around.under_plainId F.plain_tuple_new _]
  have hsub := sub_tuple_self
  have hinit := init_tuple_lookup
  have hmh := madeHere_tuple
  have hTI : s.TypeIs (.ref r) T := K.type s hok
  have hT2 : ¬ ((Value.type T == Value.type "tuple") = true) := by
    rw [K.notTuple]
    exact Bool.false_ne_true
  have hh1 : A.in1.handled = none := hh
  wp_walk using wpAny_typeOf hTI, PySem.W.kdu_collect (A := A.in1) K hh1 hok hn
  intro h' tk acc hk hacc
  show wpAny _ _ (Builtin.Tuple.tupleExact acc.toList.toArray >>= fun v => ret v) _ _ _
  unfold Builtin.Tuple.tupleExact
  refine wpAny_bind (wpAny_newObj_type ?_ (by show acc.toList.toArray.size ≤ sizeLine; simp only [Array.toArray_toList]; rw [hacc.1]; exact hn))
  refine wpAny_pure ?_
  have e : acc.toList.toArray = acc := by simp
  rw [e]
  exact h h' tk acc hk hacc
def rTupDI : List V → Hp → VK → Prop := fun xs H Q => ∃ d m, xs = [V.ref d] ∧ DRd H d m ∧ NewT (m.map fun x => V.ref x.2.1) H Q
theorem call_tupDI (hc : X.calm = true) : CallR X (.type "tuple") rTupDI := by
  intro pins s σ H xs us Q I r h
  obtain ⟨d, m, rfl, hd, q⟩ := h
  obtain ⟨u, rfl, rx⟩ := r.one
  cases rx
  obtain ⟨⟨z, hs⟩, o, es, ep, ho, hx, hdt, he, hn⟩ := dict_at I hd
  have l1 : es.size = m.length := by
    have := congrArg List.length he
    simpa using this
  refine callType_codes (Q₁ := fun obj s₁ => s₁.TypeIs obj "tuple" ∧ ∃ (x : V) (H' : Hp), Inv X pins σ H' s₁ ∧ RelV x obj ∧ Q x H') F.called_tuple (F.typeCall_tuple_1 _) F.entry_object_init
    (code_tuple_kdl (A := X.A.in1) (kdl_raw hs hx hdt) (I.ok.hd hc) ho (by omega) fun h' tk acc hk hacc => ⟨⟨_, Heap.get?_push_size _ rfl, rfl⟩, ?_⟩) fun obj s₁ h₁ => ?_
  · have ea : acc.toList = m.map fun x => Value.ref x.2.1 := by
      apply List.ext_getElem?
      intro j
      rw [List.getElem?_map]
      have ll : acc.toList.length = m.length := (Array.length_toList).trans (hacc.1.trans l1)
      cases hj : acc.toList[j]? with
      | none =>
        have lj := List.getElem?_eq_none_iff.mp hj
        rw [List.getElem?_eq_none (show m.length ≤ j by omega)]
        rfl
      | some v =>
        obtain ⟨en, hen, hv⟩ := hacc.2 j v ((Array.getElem?_toList ..).symm.trans hj)
        have qe : es.toList[j]? = some en := (Array.getElem?_toList ..).trans hen
        rw [he, List.getElem?_map] at qe
        cases hb : m[j]? with
        | none => rw [hb] at qe; cases qe
        | some b =>
          rw [hb] at qe
          have e2 : entI b = en := Option.some.inj qe
          rw [hv, ← e2]
          rfl
    have I2 : Inv X pins σ H { s with heap := h', toks := tk } := I.kept hk
    have q2 := newT_ok I2 (show Vals (m.map fun x => V.ref x.2.1) acc.toList by rw [ea]; exact refsV m) (by rw [List.length_map]; exact z) q
    rw [Array.toArray_toList] at q2
    obtain ⟨x, H', a, b, c⟩ := q2
    exact ⟨x, H', a, b, c⟩
  · obtain ⟨t, x, H', a, b, c⟩ := h₁
    exact ⟨t, F.args_object_init_2 obj _, object_init_meets F.called_tuple.init.lookup F.called_tuple.made (by decide) X.prog X.w X.A.in1 _ s₁ ⟨t, rfl, x, H', a, b, c⟩⟩
def dTupDI : List D → Mem → RD → Prop := fun ds μ R => match ds with
  | [x] => match dtOf x μ with
    | some (ks, _) => R (.tup (keysD ks)) μ
    | none => False
  | _ => False
theorem sn_tupDI {C : Cfg} : SndCall C rTupDI dTupDI := by
  intro ds vs α σ H Γ μ R Q r i w k
  unfold dTupDI at w
  split at w
  · obtain ⟨v, rfl, h⟩ := iss1 i
    split at w
    · rename_i ks ds' hd
      obtain ⟨a, m, vs', rfl, h1, h2, h3⟩ := r.dict h hd
      refine ⟨a, m, rfl, h1, fun p o hp ho => ?_⟩
      have e := h2.1
      subst e
      obtain ⟨r2, m2, i2⟩ := r.tup hp ho (keysD_is h2.2.1)
      exact k _ _ _ _ _ w r2 m2 i2
    · exact w.elim
  · exact w.elim
/-! numbers in a range -/
theorem cr_range1 : CallR X (.type "range") (fun vs H Q => ∃ j, vs = [V.int j] ∧ ∀ p, H p = none → Q (.ref p) (upd H p (.rng 0 j))) := by
  intro pins s σ H vs us Q I r h
  obtain ⟨j, rfl, q⟩ := h
  obtain ⟨u1, rfl, rj⟩ := vals1 r
  obtain ⟨u, rfl⟩ := rj
  refine call_range_1 ⟨.ref s.heap.objs.size, upd H s.heap.objs.size (.rng 0 j), I.laid (t' := _) (fun b o e => Heap.get?_push_of_some _ e) (Nat.le_refl _) ?_, rfl, q _ (I.hok.fresh (Nat.le_refl _))⟩
  exact ⟨_, _, _, Heap.get?_push_size _ rfl⟩
theorem op_notin_rng : OpR X (compareOp .NotIn) (fun x y H Q => ∃ i a lo hi, x = V.int i ∧ y = V.ref a ∧ H a = some (.rng lo hi) ∧ Q (.bl (!decide (lo ≤ i ∧ i < hi))) H) := by
  intro pins s σ H x y v u Q I rx ry h
  obtain ⟨i, a, lo, hi, rfl, rfl, ha, q⟩ := h
  obtain ⟨k, rfl⟩ := rx
  obtain rfl : u = Value.ref a := ry
  obtain ⟨t1, t2, t3, ho⟩ := I.hok a _ ha
  show wpAny _ _ (do return Value.bool (!(← contains (Value.ref a) (Value.int i k)))) _ _ s
  refine wpAny_bind (wpAny_contains_slot (T := "range") ⟨_, ho, rfl⟩ F.slot_range_contains (call_meets F.slot_range_contains ⟨_, ho, rfl⟩ F.entry_range_contains (F.args_range_contains_2 _ _) (q_contains a lo hi i t1 t2 t3 k)
    ⟨ho, wpAny_truthy_bool (wpAny_pure ⟨.bl _, H, I, rfl, ?_⟩)⟩))
  rw [place1]
  exact q
end
end TC

set_option Elab.async false
set_option linter.all false
set_option maxRecDepth 100000
set_option maxHeartbeats 4000000
namespace TC
open PySem PySem.Spec PyProof.Rows L2
section
variable {prog : Program} {w : World} {A : Around} {E : Value → Shared → Prop} {s : Shared}
theorem samePairsI {nm : String} {a b : Addr} {ma mb : List Ent} {e : Nat → Bool} {Q : Bool → Shared → Prop} (ha : (a == sysModules) = false) (hb : (b == sysModules) = false) (hu : A.units < cLine)
    (da : s.heap.DictOfH (tupI prog w) a ma) (db : s.heap.DictOfH (tupI prog w) b mb) (hk : ma.map (·.1) = mb.map (·.1)) (he : ∀ (i : Nat) x y, ma[i]? = some x → mb[i]? = some y → SeqAt.EqAt A s x.2.2 y.2.2 (e i))
    (h : Q ((List.range' 0 ma.length).all e) s) : wpAny (model prog w) A (Builtin.Dict.samePairs nm a b) Q E s := by
  obtain ⟨oa, es, ep, hoa, _, hda, hka, hia, hna⟩ := da
  obtain ⟨ob, es', ep', hob, _, hdb, hkb, hib, hnb⟩ := db
  have hla : es.size = ma.length := by
    have := congrArg List.length hka
    simpa using this
  have hlb : es'.size = mb.length := by
    have := congrArg List.length hkb
    simpa using this
  have hab : ma.length = mb.length := by
    have := congrArg List.length hk
    simpa using this
  unfold Builtin.Dict.samePairs Builtin.Dict.showsAll
  rw [if_neg (show ¬ (a == sysModules) = true by rw [ha]; exact Bool.false_ne_true), if_neg (show ¬ (b == sysModules) = true by rw [hb]; exact Bool.false_ne_true)]
  refine wpAny_bind (wpAny_pure (wpAny_bind (wpAny_pure ?_)))
  refine wpAny_bind (wpAny_dictEntries hoa hda ?_)
  dsimp only
  refine wpAny_bind (wpAny_dictEntries hob hdb ?_)
  rw [if_neg (by rw [hla, hlb, hab]; simp)]
  refine wpAny_bind (wpAny_dictEpoch hoa hda ?_)
  refine wpAny_bind ?_
  rw [Std.Legacy.Range.forIn_eq_forIn_range']
  simp only [Std.Legacy.Range.size, Nat.sub_zero, Nat.add_sub_cancel, Nat.div_one]
  refine wpAny_forIn_list _
    (fun rest q s' => s' = s ∧ q = (none, ()) ∧ ∃ i, rest = List.range' i (es.size - i) ∧ i ≤ es.size ∧ Q ((List.range' i (ma.length - i)).all e) s)
    _ ?_ ?_ _ _ ⟨rfl, rfl, 0, by simp, Nat.zero_le _, by rw [Nat.sub_zero]; exact h⟩
  · rintro x rest q s' ⟨rfl, rfl, i, hr, hi, hq⟩
    have hlt : i < es.size := by
      rcases Nat.lt_or_ge i es.size with h | h
      · exact h
      · rw [Nat.sub_eq_zero_of_le h] at hr; simp at hr
    obtain ⟨rfl, hrest⟩ : x = i ∧ rest = List.range' (i + 1) (es.size - (i + 1)) := by
      have e : es.size - i = (es.size - (i + 1)) + 1 := by omega
      rw [e, List.range'_succ] at hr
      injection hr with h1 h2
      exact ⟨h1, h2⟩
    refine wpAny_bind (wpAny_dictEntries hoa hda ?_)
    have xa : x < ma.length := by omega
    have xb : x < mb.length := by omega
    have ea : es[x]? = some (entI ma[x]) := by
      rw [← Array.getElem?_toList, hka, List.getElem?_map, List.getElem?_eq_getElem xa]
      rfl
    have eb : es'[x]? = some (entI mb[x]) := by
      rw [← Array.getElem?_toList, hkb, List.getElem?_map, List.getElem?_eq_getElem xb]
      rfl
    have ek : ma[x].1 = mb[x].1 := by
      have := congrArg (fun l => l[x]?) hk
      simp only [List.getElem?_map, List.getElem?_eq_getElem xa, List.getElem?_eq_getElem xb, Option.map_some] at this
      exact Option.some.inj this
    have eab := he x _ _ (List.getElem?_eq_getElem xa) (List.getElem?_eq_getElem xb)
    rw [ea]
    have hd : ma.length - x = (ma.length - (x + 1)) + 1 := by omega
    rw [hd, List.range'_succ, List.all_cons] at hq
    show wpAny _ _ (holding [(entI ma[x]).key, (entI ma[x]).val] _ >>= _) _ _ _
    refine wpAny_bind (wpAny_holding (wpAny_bind ?_))
    have fnd : ∀ (j : Nat) (p : Addr × Value), mb[j]? = some (ma[x].1, p) → j = x := fun j p hj => by
      obtain ⟨hjl, hje⟩ := List.getElem?_eq_some_iff.mp hj
      have h1 : (mb.map (·.1))[j]? = (mb.map (·.1))[x]? := by
        rw [List.getElem?_map, List.getElem?_map, hj, List.getElem?_eq_getElem xb]
        show some ma[x].1 = some mb[x].1
        rw [ek]
      exact nodup_ix2 hnb (x := mb[x].1) (by rw [h1, List.getElem?_map, List.getElem?_eq_getElem xb]; rfl) (by rw [List.getElem?_map, List.getElem?_eq_getElem xb]; rfl)
    refine wpAny_dictFind_heap (knd := tupI prog w) (k := ma[x].1) hu (hia _ (List.getElem_mem xa)) hob hdb hkb hib hnb (fun hno => ?_) fun j p hj => ?_
    · refine absurd ?_ (hno x mb[x].2)
      rw [List.getElem?_eq_getElem xb, ek]
    · have := fnd j p hj
      subst this
      refine wpAny_bind (wpAny_dictEntries hob hdb ?_)
      rw [eb]
      refine wpAny_holding (eab _ _ _ _ ?_)
      cases hx : e j with
      | false =>
        rw [hx, Bool.false_and] at hq
        show wpAny _ _ (if (!false) = true then _ else _) _ _ _
        rw [if_pos (by decide)]
        exact wpAny_pure (wpAny_pure hq)
      | true =>
        rw [hx, Bool.true_and] at hq
        show wpAny _ _ (if (!true) = true then _ else _) _ _ _
        rw [if_neg (by decide)]
        refine wpAny_bind (wpAny_dictEpoch hoa hda ?_)
        rw [if_neg (by simp)]
        exact wpAny_pure ⟨rfl, rfl, j + 1, hrest, hlt, hq⟩
  · rintro q s' ⟨rfl, rfl, i, hr, hi, hq⟩
    have hin : i = es.size := by
      rcases Nat.lt_or_ge i es.size with h | h
      · have e : es.size - i = (es.size - (i + 1)) + 1 := by omega
        rw [e, List.range'_succ] at hr; exact nomatch hr
      · exact Nat.le_antisymm hi h
    refine wpAny_pure ?_
    rw [hin, hla, Nat.sub_self] at hq
    exact hq
theorem rc_dictsI {a b : Addr} {ma mb : List Ent} {e : Nat → Bool} (ha : (a == sysModules) = false) (hb : (b == sysModules) = false) (hu : A.units < cLine) (hu1 : A.in1.units < cLine)
    (da : s.heap.DictOfH (tupI prog w) a ma) (db : s.heap.DictOfH (tupI prog w) b mb) (hk : ma.map (·.1) = mb.map (·.1)) (he : ∀ (i : Nat) x y, ma[i]? = some x → mb[i]? = some y → SeqAt.EqAt A.in1 s x.2.2 y.2.2 (e i)) (E Q : Value → Shared → Prop)
    (h : Q (.bool ((List.range' 0 ma.length).all e)) s) : wpAny (model prog w) A (richCompare .Eq (.ref a) (.ref b)) Q E s := by
  refine wpAny_richCompare_same_room (op := .Eq) da.typeIs db.typeIs PySem.F.slot_dict_eq (wpAny_call_entry PySem.F.slot_dict_eq da.typeIs PySem.F.entry_dict_eq ?_ (PySem.F.args_dict_eq_2 _ _)) hu
  show wpAny _ _ (Builtin.Dict.dictSlotArgs "__eq__" ⟨[.ref a, .ref b], []⟩ >>= _) _ _ s
  refine wpAny_bind ?_
  unfold Builtin.Dict.dictSlotArgs
  refine wpAny_bind (wpAny_notOrdered_dict da.typeIs ?_)
  show wpAny _ _ (pure (Value.ref a, Value.ref b)) _ _ s
  refine wpAny_pure ?_
  refine wpAny_bind (wpAny_isInstance (T := "dict") db.typeIs PySem.F.sub_dict_dict ?_)
  simp only [Bool.not_true, Bool.false_eq_true, if_false]
  refine wpAny_bind (wpAny_pure (wpAny_bind (wpAny_pure ?_)))
  refine wpAny_bind (samePairsI ha hb hu1 da db hk he ?_)
  refine wpAny_pure ⟨_, rfl, ?_, ?_⟩
  · exact fun x => nomatch x
  · simpa using h
end
section
variable {X : Cx} {pins : List (Addr × Obj)} {σ : L2.St} {H : Hp} {s : Shared} {a b : Addr} {ma mb : List Ent} {vs us : List Int} {A : Around}
theorem dictH_any (I : Inv X pins σ H s) (d : KD X.K H H a ma) (P : Program) (w : World) : s.heap.DictOfH (tupI P w) a ma := by
  obtain ⟨_, o, es, ep, h1, h2, h3, h4, h5⟩ := dict_at I d.1
  refine ⟨o, es, ep, h1, h2, h3, h4, fun x hx => ?_, h5⟩
  obtain ⟨its, r, ⟨o, h1, h2, n, h3⟩, _⟩ := I.tuple (d.2 x hx).sq
  exact ⟨o, its.toArray, n, h1, h2, h3, by simpa using items_int r⟩
theorem ent_val {m : List Ent} {vs : List Int} (hv : Vals (vs.map V.int) (m.map (·.2.2))) {i : Nat} {x : Ent} (h : m[i]? = some x) : ∃ t v, vs[i]? = some v ∧ x.2.2 = .int v t := by
  have e : (m.map (·.2.2))[i]? = some x.2.2 := by rw [List.getElem?_map, h]; rfl
  obtain ⟨hl, e2⟩ := List.getElem?_eq_some_iff.mp e
  have lv := hv.length
  rw [List.length_map] at lv
  have iv : i < vs.length := by omega
  obtain ⟨t, ht⟩ := vals_at hv (j := i) (by omega)
  refine ⟨t, vs[i], List.getElem?_eq_getElem iv, ?_⟩
  rw [← e2, ht]
  rw [List.getD_eq_getElem?_getD, List.getElem?_eq_getElem iv]
  rfl
theorem ent_same (I : Inv X pins σ H s) (da : DRd H a ma) (db : DRd H a mb) (hk : ma.map (·.1) = mb.map (·.1)) : ma = mb := by
  obtain ⟨⟨_, sa⟩, o1, es1, ep1, x1, x2, x3, x4, x5⟩ := dict_at I da
  obtain ⟨⟨_, sb⟩, o2, es2, ep2, y1, y2, y3, y4, y5⟩ := dict_at I db
  have e0 : o1 = o2 := Option.some.inj (x1.symm.trans y1)
  subst e0
  rw [x3] at y3
  injection y3 with y3 _
  rw [y3, y4] at x4
  refine List.ext_getElem? fun i => ?_
  have h1 := congrArg (fun l => l[i]?) x4
  have h2 := congrArg (fun l => l[i]?) hk
  simp only [List.getElem?_map] at h1 h2
  cases p : ma[i]? with
  | none => rw [p] at h1; cases q : mb[i]? with | none => rfl | some y => rw [q] at h1; cases h1
  | some x =>
    cases q : mb[i]? with
    | none => rw [p, q] at h1; cases h1
    | some y =>
      rw [p, q] at h1 h2
      have h1 := Option.some.inj h1
      have h2 := Option.some.inj h2
      obtain ⟨k1, a1, v1⟩ := x
      obtain ⟨k2, a2, v2⟩ := y
      unfold entI at h1
      injection h1 with _ g2 g3
      injection g2 with g2
      simp only at h2 g2 g3
      rw [h2, g2, g3]
theorem val_same (hv : Vals (vs.map V.int) (ma.map (·.2.2))) (hw : Vals (us.map V.int) (ma.map (·.2.2))) : vs = us := by
  have lva := hv.length
  have lvb := hw.length
  simp only [List.length_map] at lva lvb
  refine List.ext_getElem? fun i => ?_
  cases p : ma[i]? with
  | none =>
    have := List.getElem?_eq_none_iff.mp p
    rw [List.getElem?_eq_none (by omega), List.getElem?_eq_none (by omega)]
  | some x =>
    obtain ⟨t, v, e1, e2⟩ := ent_val hv p
    obtain ⟨t', u, e3, e4⟩ := ent_val hw p
    rw [e2] at e4
    injection e4 with e4 _
    rw [e1, e3, e4]
theorem eqAt_dictsI (I : Inv X pins σ H s) (hu : A.units + 1 < cLine) (da : KD X.K H H a ma) (db : KD X.K H H b mb) (hk : ma.map (·.1) = mb.map (·.1)) (hv : Vals (vs.map V.int) (ma.map (·.2.2))) (hw : Vals (us.map V.int) (mb.map (·.2.2))) :
    SeqAt.EqAt A s (.ref a) (.ref b) (decide (vs = us)) := by
  obtain ⟨⟨_, sa⟩, o1, es1, ep1, x1, x2, x3, x4, x5⟩ := dict_at I da.1
  obtain ⟨⟨_, sb⟩, o2, es2, ep2, y1, y2, y3, y4, y5⟩ := dict_at I db.1
  have lva := hv.length
  have lvb := hw.length
  have lk := congrArg List.length hk
  simp only [List.length_map] at lva lvb lk
  have he : ∀ (A' : Around) (i : Nat) x y, ma[i]? = some x → mb[i]? = some y → SeqAt.EqAt A' s x.2.2 y.2.2 (decide (vs.getD i 0 = us.getD i 0)) := fun A' i x y hx hy => by
    obtain ⟨t, v, e1, e2⟩ := ent_val hv hx
    obtain ⟨t', u, e3, e4⟩ := ent_val hw hy
    have := SeqAt.EqAt.int_int (A := A') (s := s) v t u t'
    have eb : (v == u) = decide (v = u) := int_beq _ _
    rw [eb] at this
    rw [e2, e4, List.getD_eq_getElem?_getD, List.getD_eq_getElem?_getD, e1, e3]
    exact this
  have all : (List.range' 0 ma.length).all (fun i => decide (vs.getD i 0 = us.getD i 0)) = decide (vs = us) := by
    by_cases e : vs = us
    · subst e
      simp
    · rw [decide_eq_false e, ← Bool.not_eq_true]
      intro h
      rw [List.all_eq_true] at h
      refine e (List.ext_getElem (by omega) fun i h1 h2 => ?_)
      have := of_decide_eq_true (h i (by simp; omega))
      rw [List.getD_eq_getElem?_getD, List.getD_eq_getElem?_getD, List.getElem?_eq_getElem h1, List.getElem?_eq_getElem h2] at this
      exact this
  by_cases hab : a = b
  · subst hab
    have em : ma = mb := ent_same I da.1 db.1 hk
    subst em
    have ev : vs = us := val_same hv hw
    rw [decide_eq_true ev]
    exact SeqAt.EqAt.same _
  · refine SeqAt.EqAt.of_refs hab fun prog w E Q h => ?_
    rw [← all] at h
    exact rc_dictsI (e := fun i => decide (vs.getD i 0 = us.getD i 0)) sa sb (by omega) (by show A.units + 1 < cLine; omega) (dictH_any I da prog w) (dictH_any I db prog w) hk (he _) E Q h
theorem sub_NoneType_dict : isSubtype (.type "NoneType") (.type "dict") = pure false := by rfl
theorem eqAt_dictNone (I : Inv X pins σ H s) (hu : A.units < cLine) (da : DRd H a ma) : SeqAt.EqAt A s (.ref a) .none false := fun prog w E Q h => by
  obtain ⟨⟨_, sa⟩, o1, es1, ep1, x1, x2, x3, x4, x5⟩ := dict_at I da
  have ta : s.TypeIs (.ref a) "dict" := ⟨o1, x1, x2.1⟩
  unfold eqBool
  refine wpAny_holding ?_
  refine wpAny_ite_split (fun hab => absurd (eq_of_beq hab) nofun) (fun _ => ?_)
  refine wpAny_bind ?_
  refine SeqAt.rc_eq_decline_or (k := false) ta rfl (by decide) sub_NoneType_dict F.slot_dict_eq F.slot_NoneType_eq_refl (fun Q' hq => ?_)
    (fun _ hq => call_gives F.slot_NoneType_eq_refl rfl F.entry_NoneType_eq (F.args_NoneType_eq_2 _ _) (SeqAt.NoneType___eq___none_ref_0 a) hq)
    (fun _ hq => wpAny_of_eq (rfl : isSame (.ref a) .none = pure false) hq) (.inr hu) (wpAny_truthy_bool h)
  refine wpAny_call_entry PySem.F.slot_dict_eq ta PySem.F.entry_dict_eq ?_ (PySem.F.args_dict_eq_2 _ _)
  show wpAny _ _ (Builtin.Dict.dictSlotArgs "__eq__" ⟨[.ref a, .none], []⟩ >>= _) _ _ s
  refine wpAny_bind ?_
  unfold Builtin.Dict.dictSlotArgs
  refine wpAny_bind (wpAny_notOrdered_dict ta ?_)
  show wpAny _ _ (pure (Value.ref a, Value.none)) _ _ s
  refine wpAny_pure ?_
  refine wpAny_bind (wpAny_isInstance (T := "NoneType") rfl sub_NoneType_dict ?_)
  simp only [Bool.not_false, if_true]
  exact wpAny_bind (wpAny_rule (wpAny_pure ⟨_, rfl, hq⟩))
end
/-! d in l, l a list of such dicts -/
section
variable {X : Cx}
/-- the keys, the rows of values of a list of dicts of the same keys -/
inductive DRows (K : PySem.W.Frag) (H : Hp) (ks : List (List Int)) : List V → List (List Int) → Prop
  | nil : DRows K H ks [] []
  | cons {a : Addr} {m : List Ent} {r : List Int} {vs : List V} {rs : List (List Int)} : KD K H H a m → m.map (·.1) = ks → Vals (r.map V.int) (m.map (·.2.2)) → DRows K H ks vs rs → DRows K H ks (.ref a :: vs) (r :: rs)
def rInDI (K : PySem.W.Frag) (neg : Bool) : R2 := fun x y H Q => ∃ (a l : Addr) (m : List Ent) (r : List Int) (ks : List (List Int)) (vs : List V) (rows : List (List Int)), x = .ref a ∧ y = .ref l ∧ KD K H H a m ∧ m.map (·.1) = ks ∧ Vals (r.map V.int) (m.map (·.2.2)) ∧ SqL K H l vs ∧ DRows K H ks vs rows ∧
  Q (.bl (if neg then !rows.any (fun q => decide (q = r)) else rows.any fun q => decide (q = r))) H
open Classical in
noncomputable def rowIs (K : PySem.W.Frag) (H : Hp) (ks : List (List Int)) (r : List Int) (y : Value) : Bool := decide (∃ (a : Addr) (m : List Ent), y = .ref a ∧ KD K H H a m ∧ m.map (·.1) = ks ∧ Vals (r.map V.int) (m.map (·.2.2)))
open Classical in
theorem rowIs_of {pins : List (Addr × Obj)} {σ : L2.St} {H : Hp} {s : Shared} {a : Addr} {m : List Ent} {q r : List Int} {ks : List (List Int)} (I : Inv X pins σ H s) (da : KD X.K H H a m) (hk : m.map (·.1) = ks) (hv : Vals (q.map V.int) (m.map (·.2.2))) : rowIs X.K H ks r (.ref a) = decide (q = r) := by
  unfold rowIs
  by_cases e : q = r
  · subst e
    rw [decide_eq_true rfl]
    exact decide_eq_true ⟨a, m, rfl, da, hk, hv⟩
  · rw [decide_eq_false e]
    refine decide_eq_false fun ⟨a', m', h1, h2, h3, h4⟩ => e ?_
    cases h1
    have := ent_same I da.1 h2.1 (hk.trans h3.symm)
    subst this
    exact val_same hv h4
theorem drows_eq {pins : List (Addr × Obj)} {σ : L2.St} {H : Hp} {s : Shared} {A : Around} {a : Addr} {m : List Ent} {r : List Int} {ks : List (List Int)} (I : Inv X pins σ H s) (hu : A.units + 1 < cLine) (da : KD X.K H H a m) (hk : m.map (·.1) = ks) (hv : Vals (r.map V.int) (m.map (·.2.2))) :
    ∀ {vs : List V} {rows : List (List Int)} {us : List Value}, DRows X.K H ks vs rows → Vals vs us → (∀ y ∈ us, SeqAt.EqAt A s y (.ref a) (rowIs X.K H ks r y)) ∧ us.any (rowIs X.K H ks r) = rows.any fun q => decide (q = r)
  | _, _, _, .nil, .nil => ⟨fun y hy => (by cases hy), rfl⟩
  | _, _, _, .cons (a := a') (m := m') (r := q) h1 h2 h3 h4, .cons e t => by
    cases e
    obtain ⟨i1, i2⟩ := drows_eq I hu da hk hv h4 t
    have e := rowIs_of (r := r) I h1 h2 h3
    refine ⟨fun y hy => ?_, by rw [List.any_cons, List.any_cons, i2, e]⟩
    rcases List.mem_cons.mp hy with rfl | hy
    · rw [e]
      exact eqAt_dictsI I hu h1 da (h2.trans hk.symm) h3 hv
    · exact i1 y hy
theorem op_inDI (hu : X.A.units + 2 < cLine) : OpR X (compareOp .In) (rInDI X.K false) := by
  intro pins s σ H x y v u Q I rx ry h
  obtain ⟨a, l, m, r, ks, vs, rows, rfl, rfl, da, hk, hv, hl, hr, q⟩ := h
  cases rx
  cases ry
  obtain ⟨its, rv, pl, hz⟩ := I.list hl
  obtain ⟨i1, i2⟩ := drows_eq (A := X.A.in1) I (by show X.A.units + 1 + 1 < cLine; omega) da hk hv hr rv
  refine SeqAt.in_listAt (rowIs X.K H ks r) pl.isList (fun y hy => i1 y (by simpa using hy)) ⟨.bl _, H, I, rfl, ?_⟩
  have e : its.toArray.any (rowIs X.K H ks r) = rows.any fun q => decide (q = r) := by rw [← i2, ← Array.any_toList]
  rw [e]
  exact q
theorem op_notInDI (hu : X.A.units + 2 < cLine) : OpR X (compareOp .NotIn) (rInDI X.K true) := by
  intro pins s σ H x y v u Q I rx ry h
  obtain ⟨a, l, m, r, ks, vs, rows, rfl, rfl, da, hk, hv, hl, hr, q⟩ := h
  cases rx
  cases ry
  obtain ⟨its, rv, pl, hz⟩ := I.list hl
  obtain ⟨i1, i2⟩ := drows_eq (A := X.A.in1) I (by show X.A.units + 1 + 1 < cLine; omega) da hk hv hr rv
  refine SeqAt.notIn_listAt (rowIs X.K H ks r) pl.isList (fun y hy => i1 y (by simpa using hy)) ⟨.bl _, H, I, rfl, ?_⟩
  have e : its.toArray.any (rowIs X.K H ks r) = rows.any fun q => decide (q = r) := by rw [← i2, ← Array.any_toList]
  rw [e]
  exact q
/-- None in l -/
def rNonInDI (K : PySem.W.Frag) : R2 := fun x y H Q => ∃ (l : Addr) (ks : List (List Int)) (vs : List V) (rows : List (List Int)), x = .non ∧ y = .ref l ∧ SqL K H l vs ∧ DRows K H ks vs rows ∧ Q (.bl false) H
theorem op_nonInDI (hu : X.A.units + 2 < cLine) : OpR X (compareOp .In) (rNonInDI X.K) := by
  intro pins s σ H x y v u Q I rx ry h
  obtain ⟨l, ks, vs, rows, rfl, rfl, hl, hr, q⟩ := h
  cases rx
  cases ry
  obtain ⟨its, rv, pl, hz⟩ := I.list hl
  have all : ∀ {vs : List V} {rows : List (List Int)} {us : List Value}, DRows X.K H ks vs rows → Vals vs us → ∀ y ∈ us, ∃ (a : Addr) (m : List Ent), y = .ref a ∧ KD X.K H H a m := by
    intro vs rows us hr
    induction hr generalizing us with
    | nil => intro h; cases h; exact fun y hy => by cases hy
    | cons h1 h2 h3 h4 ih =>
      intro h
      cases h with
      | cons e t =>
        cases e
        intro y hy
        rcases List.mem_cons.mp hy with rfl | hy
        · exact ⟨_, _, rfl, h1⟩
        · exact ih t y hy
  refine SeqAt.in_listAt (fun _ => false) pl.isList (fun y hy => ?_) ⟨.bl _, H, I, rfl, ?_⟩
  · obtain ⟨a, m, rfl, d⟩ := all hr rv y (by simpa using hy)
    exact eqAt_dictNone I (by show X.A.units + 1 < cLine; omega) d.1
  · have e : its.toArray.any (fun _ => false) = false := by rw [← Array.any_toList, List.any_eq_false]; exact fun _ _ => by simp
    rw [e]
    exact q
end
/-! at the data level -/
section
variable {X : Cx} {C : Cfg} {W : WX} {a b : Expr} {wa wb : DX} {pos : Pos}
def dtRows (ks : List (List Int)) (rows : List (List Int)) : List D := rows.map fun r => D.dt ks (r.map D.int)
theorem drows_is {K : PySem.W.Frag} {S : Sts} {α : List Addr} {G H : Hp} (e : Ex G H) {ks : List (List Int)} : ∀ {rows : List (List Int)} {vs : List V}, Iss K S α G (dtRows ks rows) vs → (∀ r ∈ rows, r.length = ks.length) → DRows K H ks vs rows
  | [], _, .nil, _ => .nil
  | r :: rows, _, .cons h t, hl => by
    cases h with
    | dt h1 h2 h3 =>
      have ei := h3.ints
      subst ei
      have kd : KD K H H _ _ := h2.kd (.inr ⟨_, e _ _ h1⟩) e
      exact .cons kd h2.1 h2.2.2 (drows_is e t fun q hq => hl q (List.mem_cons_of_mem _ hq))
def dInDI (neg : Bool) : D → D → Mem → RD → Prop := fun x y μ R => match dtOf x μ with
  | some (ks, ds) => ∃ (r : List Int) (rows : List (List Int)), ds = r.map D.int ∧ y = .lst (dtRows ks rows) ∧ (∀ q ∈ rows, q.length = ks.length) ∧ R (.bl (if neg then !rows.any (fun q => decide (q = r)) else rows.any fun q => decide (q = r))) μ
  | none => False
theorem sn_inDI {neg : Bool} : SndOp C (rInDI C.K neg) (dInDI neg) := by
  intro x y v u α σ H Γ μ R Q r ix iy w k
  unfold dInDI at w
  split at w
  · rename_i ks ds hd
    obtain ⟨r', rows, rfl, rfl, hl, w⟩ := w
    obtain ⟨a, m, vs, rfl, h1, h2, h3⟩ := r.dict ix hd
    have ei := h3.ints
    subst ei
    cases iy with
    | lst hl' hi =>
      exact ⟨a, _, m, r', ks, _, rows, rfl, rfl, h2.kd h1 gk_ex, h2.1, h2.2.2, SqL.of (gk_ex _ _ hl'), drows_is gk_ex hi hl, k _ _ _ _ _ w r Mv.refl (.bl _)⟩
  · exact w.elim
theorem dt_notinDI (hK : X.K = C.K) (hu : X.A.units + 2 < cLine) (ha : DE X C W a wa) (hb : DE X C W b wb) (hm : behindInMarks .NotIn b = false) : DTs X C W (.Compare a [.NotIn] [b] pos) (wTest (wBin (dInDI true) wa wb)) :=
  dt_cmp (by have h := op_notInDI (X := X) hu; rw [hK] at h; exact h) sn_inDI ha hb hm
def dNonInDI : D → D → Mem → RD → Prop := fun x y μ R => ∃ ks rows, x = .non ∧ y = .lst (dtRows ks rows) ∧ (∀ q ∈ rows, q.length = ks.length) ∧ R (.bl false) μ
theorem sn_nonInDI : SndOp C (rNonInDI C.K) dNonInDI := by
  intro x y v u α σ H Γ μ R Q r ix iy ⟨ks, rows, e1, e2, hl, w⟩ k
  subst e1 e2
  cases ix
  cases iy with
  | lst hl' hi => exact ⟨_, ks, _, rows, rfl, rfl, SqL.of (gk_ex _ _ hl'), drows_is gk_ex hi hl, k _ _ _ _ _ w r Mv.refl (.bl _)⟩
theorem dt_nonInDI (hK : X.K = C.K) (hu : X.A.units + 2 < cLine) (ha : DE X C W a wa) (hb : DE X C W b wb) (hm : behindInMarks .In b = false) : DTs X C W (.Compare a [.In] [b] pos) (wTest (wBin dNonInDI wa wb)) :=
  dt_cmp (by have h := op_nonInDI (X := X) hu; rw [hK] at h; exact h) sn_nonInDI ha hb hm
/-- a not in range(b) -/
def ngD (d : D) (ds : List D) (R : Bool → Mem → Prop) (μ : Mem) : Prop := match d, ds with
  | .int i, [.int n] => R (!decide (0 ≤ i ∧ i < n)) μ
  | _, _ => False
def wNotRg (wa wb : DX) : DT := fun Γ μ R Z => wa Γ μ (fun d μ1 => wCons wb wNil Γ μ1 (fun ds μ2 => ngD d ds R μ2) Z) Z
theorem dt_notRg (ha : DE X C W a wa) (hr : PE X b (tCB (fun vs H Q => ∃ j, vs = [V.int j] ∧ ∀ p, H p = none → Q (.ref p) (upd H p (.rng 0 j))) (canA C W (wCons wb wNil)))) (hm : behindInMarks .NotIn b = false) : DTs X C W (.Compare a [.NotIn] [b] pos) (wNotRg wa wb) :=
  PT.imp (pt_cmpR op_notin_rng ha hr hm) fun σ H Q ⟨α, Γ, μ, R, Z, r, w, k, z⟩ => by
    refine ⟨α, Γ, μ, _, Z, r, w, fun d v α1 μ1 H1 w1 r1 m1 i1 => ?_, z⟩
    refine ⟨α1, Γ, μ1, _, Z, r1, w1, fun ds vs α2 μ2 H2 w2 r2 m2 i2 => ?_, z.mv m1⟩
    have i1 := m2.is i1
    unfold ngD at w2
    split at w2
    · cases i1
      cases i2 with
      | cons h t =>
        cases h
        cases t
        exact ⟨_, rfl, fun p hp => ⟨_, p, 0, _, rfl, rfl, upd_same, _, rfl, k _ α2 μ2 _ w2 (r2.ext (ex_new hp)) ((m1.trans m2).trans (Mv.ext (ex_new hp)))⟩⟩
    · exact w2.elim
end
end TC

set_option Elab.async false
set_option linter.all false
set_option maxRecDepth 100000
set_option maxHeartbeats 4000000
namespace TC
open PySem PySem.Spec PyProof.Rows L2
def rLtL (K : PySem.W.Frag) : R2 := fun x y H Q => ∃ a b ns ms, x = .ref a ∧ y = .ref b ∧ SqL K H a (ns.map V.int) ∧ SqL K H b (ms.map V.int) ∧ Q (.bl (HT.lexLt ns ms)) H
theorem op_ltL {X : Cx} (hu : X.A.units + 2 < cLine) : OpR X (compareOp .Lt) (rLtL X.K) := by
  intro pins s σ H x y v u Q I rx ry h
  obtain ⟨a, b, xs, ys, rfl, rfl, ha, hb, q⟩ := h
  cases rx
  cases ry
  obtain ⟨us, rv, pl, _⟩ := I.list ha
  obtain ⟨us', rv', pl', _⟩ := I.list hb
  have l1 := rv.length
  have l2 := rv'.length
  rw [List.length_map] at l1 l2
  refine SeqAt.RcLt.lists (e := fun j => decide (xs.getD j 0 = ys.getD j 0)) (r := fun j => decide (xs.getD j 0 < ys.getD j 0)) pl.isList pl'.isList (by omega) (fun j j1 j2 => ?_) (fun j j1 j2 _ => ?_) X.prog X.w _ _ ?_
  · obtain ⟨t, h1⟩ := vals_at rv (j := j) (by simpa using j1)
    obtain ⟨t', h2⟩ := vals_at rv' (j := j) (by simpa using j2)
    have g1 : (List.toArray us)[j] = us[j]'(by simpa using j1) := by simp
    have g2 : (List.toArray us')[j] = us'[j]'(by simpa using j2) := by simp
    rw [g1, g2, h1, h2]
    have := SeqAt.EqAt.int_int (A := X.A.in1) (s := s) (xs.getD j 0) t (ys.getD j 0) t'
    have eb : (xs.getD j 0 == ys.getD j 0) = decide (xs.getD j 0 = ys.getD j 0) := int_beq _ _
    rw [eb] at this
    exact this
  · obtain ⟨t, h1⟩ := vals_at rv (j := j) (by simpa using j1)
    obtain ⟨t', h2⟩ := vals_at rv' (j := j) (by simpa using j2)
    have g1 : (List.toArray us)[j] = us[j]'(by simpa using j1) := by simp
    have g2 : (List.toArray us')[j] = us'[j]'(by simpa using j2) := by simp
    rw [g1, g2, h1, h2]
    have := PySem.W.rcLt_alike (.int (xs.getD j 0)) (.int (ys.getD j 0)) X.A.in1 s (.int (xs.getD j 0) t) (.int (ys.getD j 0) t') [] [] (.int _ _) (.int _ _) (by rfl) (fun q => nomatch q) (by show X.A.units + 1 + 0 < cLine; omega)
    rw [PySem.W.dataLt_int] at this
    exact this
  · have fl := first_lex xs ys 0 (fun j => decide (xs.getD j 0 = ys.getD j 0)) (fun j => decide (xs.getD j 0 < ys.getD j 0)) fun j _ _ => ⟨by rw [Nat.zero_add], by rw [Nat.zero_add]⟩
    rw [← List.range_eq_range', l1, l2] at fl
    have fl : SeqAt.firstLt (fun j => decide (xs.getD j 0 = ys.getD j 0)) (fun j => decide (xs.getD j 0 < ys.getD j 0)) (decide ((List.toArray us).size < (List.toArray us').size)) (List.range (min (List.toArray us).size (List.toArray us').size)) = HT.lexLt xs ys := by
      simpa using fl
    rw [fl]
    exact ⟨.bl _, H, I, rfl, q⟩
section
variable {X : Cx} {C : Cfg} {W : WX} {a b : Expr} {wa wb : DX} {pos : Pos}
def dLtL : D → D → Mem → RD → Prop := fun x y μ R => ∃ ns ms : List Int, x = .lst (ns.map D.int) ∧ y = .lst (ms.map D.int) ∧ R (.bl (HT.lexLt ns ms)) μ
theorem sn_ltL : SndOp C (rLtL C.K) dLtL := by
  intro x y v u α σ H Γ μ R Q r ix iy ⟨ns, ms, e1, e2, w⟩ k
  subst e1 e2
  cases ix with
  | lst h1 i1 =>
    cases iy with
    | lst h2 i2 =>
      have e1 := i1.ints
      have e2 := i2.ints
      subst e1 e2
      exact ⟨_, _, ns, ms, rfl, rfl, SqL.of (gk_ex _ _ h1), SqL.of (gk_ex _ _ h2), k _ _ _ _ _ w r Mv.refl (.bl _)⟩
theorem dt_ltL (hK : X.K = C.K) (hu : X.A.units + 2 < cLine) (ha : DE X C W a wa) (hb : DE X C W b wb) (hm : behindInMarks .Lt b = false := by rfl) : DTs X C W (.Compare a [.Lt] [b] pos) (wTest (wBin dLtL wa wb)) :=
  dt_cmp (by have h := op_ltL (X := X) hu; rw [hK] at h; exact h) sn_ltL ha hb hm
end
/-! l == [], l any list -/
def rEqN (K : PySem.W.Frag) : R2 := fun x y H Q => ∃ a b vs, x = .ref a ∧ y = .ref b ∧ SqL K H a vs ∧ SqL K H b [] ∧ Q (.bl (decide (vs = []))) H
theorem op_eqN {X : Cx} (hu : X.A.units < cLine) : OpR X (compareOp .Eq) (rEqN X.K) := by
  intro pins s σ H x y v u Q I rx ry h
  obtain ⟨a, b, vs, rfl, rfl, ha, hb, q⟩ := h
  cases rx
  cases ry
  obtain ⟨us, rv, pl, _⟩ := I.list ha
  obtain ⟨us', rv', pl', _⟩ := I.list hb
  cases rv'
  cases vs with
  | nil =>
    cases rv
    exact SeqAt.eq_listAt (e := fun _ => true) pl.isList pl'.isList rfl hu (fun j h1 _ => absurd h1 (by simp)) ⟨.bl true, H, I, rfl, q⟩
  | cons z vs =>
    cases rv with
    | cons e t => exact SeqAt.eq_list_lengthsAt pl.isList pl'.isList (by simp) hu ⟨.bl false, H, I, rfl, q⟩
section
variable {X : Cx} {C : Cfg} {W : WX} {a b : Expr} {wa wb : DX} {pos : Pos}
def dEqN : D → D → Mem → RD → Prop := fun x y μ R => ∃ ds, x = .lst ds ∧ y = .lst [] ∧ R (.bl (decide (ds.length = 0))) μ
theorem sn_eqN : SndOp C (rEqN C.K) dEqN := by
  intro x y v u α σ H Γ μ R Q r ix iy ⟨ds, e1, e2, w⟩ k
  subst e1 e2
  cases ix with
  | lst h1 i1 =>
    cases iy with
    | lst h2 i2 =>
      cases i2
      refine ⟨_, _, _, rfl, rfl, SqL.of (gk_ex _ _ h1), SqL.of (gk_ex _ _ h2), ?_⟩
      have e : ∀ xs : List V, Iss C.K C.S α (gk C α μ H) ds xs → decide (xs = []) = decide (ds.length = 0) := fun xs hi => by
        rw [hi.length]
        cases xs <;> simp
      rw [e _ i1]
      exact k _ _ _ _ _ w r Mv.refl (.bl _)
theorem dt_eqN (hK : X.K = C.K) (hu : X.A.units < cLine) (ha : DE X C W a wa) (hb : DE X C W b wb) (hm : behindInMarks .Eq b = false := by rfl) : DTs X C W (.Compare a [.Eq] [b] pos) (wTest (wBin dEqN wa wb)) :=
  dt_cmp (by have h := op_eqN (X := X) hu; rw [hK] at h; exact h) sn_eqN ha hb hm
end
end TC

set_option Elab.async false
set_option linter.all false
set_option maxRecDepth 100000
set_option maxHeartbeats 2000000
/-! Leadings, all and only: what the defs are to do. -/
namespace TC
open PySem PySem.Spec PyProof.Rows L2
def s7_words_of (A : Adr) : SpM := fun ds μ R _ => ∃ x ts, ∃ n : Nat, ds = [x, .int n] ∧ seqM x μ ts ∧ ts.length ≤ 200 ∧ (2 ≤ n ∧ n ≤ 5) ∧ (∀ t ∈ ts, Tn n t) ∧ ∀ ks ws (e : Mem), WordsLS n (prsOf 0 ts) ks ws → (∀ w ∈ ws, w.length ≤ 1000) → R (.dt ks (wsD ws)) (μ ++ e)
/-- each is new to what comes of those ahead -/
def Indep (n : Nat) (few : List (List Int)) : Prop := ∀ i, i < few.length → ¬ Cl n (few.take i) (few.getD i [])
def s7_few_and_all (A : Adr) : SpD := fun ds R _ => ∃ x ts, ∃ n : Nat, ds = [x, .int n] ∧ isRow x ts ∧ ts.length ≤ 1000 ∧ (2 ≤ n ∧ n ≤ 5) ∧ (∀ t ∈ ts, Tn n t) ∧
  ∀ few g, (∀ t ∈ few, t ∈ ts) → GrpOk n ts g → GrpOk n few g → 2 ^ few.length ≤ g.length → Indep n few → R (.tup [.lst (few.map tI), .tup (g.map tI)])
def s7_number_rows (A : Adr) : SpD := fun ds R _ => ∃ k m : Nat, ds = [.int k, .int m] ∧ k ≤ 7 ∧ (m = 2 ∨ m = 3) ∧ ∀ rows : List (List Int), rows.length ≤ 2187 → rows.Nodup → (∀ r, r ∈ rows ↔ r.length = k ∧ ∀ v ∈ r, inZ m v) → R (.lst (lrows rows))
def s7_told_by (A : Adr) : SpD := fun ds R _ => ∃ (ks : List (List Int)) (ws : List (List D)) (ns : List Int) (m : Nat), ds = [.dt ks (wsD ws), .lst (ns.map D.int), .int m] ∧ ks.Nodup ∧ ks.length = ws.length ∧ ks.length ≤ 1000 ∧ (∀ w ∈ ws, pairsOk ns.length w) ∧ (∀ v ∈ ns, inZ m v) ∧ (m = 2 ∨ m = 3) ∧
  ∀ vs : List Int, vs.length = ks.length → (∀ v ∈ vs, inZ m v) → (∀ t ∈ ks, ∀ ps : List (Nat × Int), ws.getD (ks.idxOf t) [] = ps.map (fun p => D.tup [.int (p.1 : Int), .int p.2]) → valL ks vs t = ((ps.map fun p => ns.getD p.1 0 * p.2).sum).fmod (m : Int)) → R (.dt ks (vs.map D.int))
/-- the row of values of a sum that counts to m -/
def HomRow (m : Nat) (g : List (List Int)) (r : List Int) : Prop := r.length = g.length ∧ (∀ v ∈ r, inZ m v) ∧ ∀ x ∈ g, ∀ y ∈ g, valL g r (putL x y) = (valL g r x + valL g r y) % (m : Int)
def AllHom (m : Nat) (g : List (List Int)) (rows : List (List Int)) : Prop := rows.Pairwise ltL ∧ ∀ r, r ∈ rows ↔ HomRow m g r
def s7_leading_rows (A : Adr) : SpD := fun ds R Z => ∃ x, ∃ m : Nat, ds = [x, .int m] ∧ (m = 2 ∨ m = 3) ∧ grpIn x (fun n g => ∀ rows : List (List Int), rows.length ≤ 2187 → AllHom m g rows → R (.lst (lrows rows))) (Z A.c_NoGroup)
def s7_leadings (A : Adr) : SpD := fun ds R Z => ∃ x, ds = [x] ∧ grpIn x (fun n g => ∀ rows : List (List Int), rows.length ≤ 2187 → AllHom 2 g rows → R (.lst (rows.map fun r => .dt g (r.map fun v => D.int (1 - 2 * v))))) (Z A.c_NoGroup)
def s7_thirds (A : Adr) : SpD := fun ds R Z => ∃ x, ds = [x] ∧ grpIn x (fun n g => ∀ rows : List (List Int), rows.length ≤ 2187 → AllHom 3 g rows → R (.lst (rows.map fun r => .dt g (r.map D.int)))) (Z A.c_NoGroup)
/-! the law's own -/
def s7_law_commutators (A : Adr) : SpD := fun ds R _ => ∃ (ts : List (List Int)) (n : Nat), ds = [.lst (ts.map tI)] ∧ ts.length ≤ 10 ∧ (∀ t ∈ ts, Tn n t) ∧ ∀ cs : List (List Int), cs.length ≤ 10 * ts.length → (∀ t ∈ cs, Tn n t) → (∀ c ∈ cs, ∃ a ∈ ts, ∃ b ∈ ts, c = putL (putL (putL a b) (backL a)) (backL b)) →
  (∀ i j : Nat, i < j → j < ts.length → putL (putL (putL (ts.getD i []) (ts.getD j [])) (backL (ts.getD i []))) (backL (ts.getD j [])) ∈ cs) → R (.lst (cs.map tI))
def sp_law_leads (A : Adr) : SpD := fun ds R _ => ∃ (g ts : List (List Int)) (r : List Int) (n m : Nat), ds = [.dt g (r.map D.int), .tup (g.map tI), .lst (ts.map tI), .int m] ∧ (m = 2 ∨ m = 3) ∧ HomRow m g r ∧ (2 ≤ n ∧ n ≤ 5) ∧ (∀ t ∈ ts, Tn n t) ∧ ts.length ≤ 10 ∧ GrpOk n ts g ∧ R (.bl true)
def sp_law_as_rests (A : Adr) : SpD := fun ds R _ => ∃ (g : List (List Int)) (r : List Int), ds = [.dt g (r.map fun v => D.int (1 - 2 * v))] ∧ r.length = g.length ∧ g.Nodup ∧ g.length ≤ 1000 ∧ (∀ v ∈ r, inZ 2 v) ∧ R (.dt g (r.map D.int))
def sp_law_all (A : Adr) : SpD := fun ds R _ => ∃ (g ts N rows : List (List Int)) (n m : Nat), ds = [.lst (dtRows g rows), .tup (g.map tI), .lst (ts.map tI), .int m, .tup (N.map tI)] ∧ (m = 2 ∨ m = 3) ∧ AllHom m g rows ∧ rows.length ≤ 2187 ∧ (2 ≤ n ∧ n ≤ 5) ∧ (∀ t ∈ ts, Tn n t) ∧ ts.length ≤ 10 ∧ GrpOk n ts g ∧
  rows.length * N.length = g.length ∧ N.Pairwise ltL ∧ (∀ t ∈ N, t ∈ g) ∧ (∀ t ∈ g, (∀ r ∈ rows, valL g r t = 0) ↔ t ∈ N) ∧ R (.bl true)
end TC

set_option Elab.async false
set_option linter.all false
set_option maxRecDepth 100000
set_option maxHeartbeats 2000000
/-! itertools.permutations of a range, at the library's level. -/
namespace TC
open PySem PySem.Spec PyProof.Rows L2
theorem pm_mro : mroOf (.type "itertools.permutations") = pure [.type "itertools.permutations", .type "object"] := by rw [mroOf_type]; kernel_rfl
theorem pm_lookup_new : typeLookup (.type "itertools.permutations") "__new__" = pure (some (.builtin "itertools.permutations.__new__")) := by rw [typeLookup_type, builtinLookup_eq_fast]; kernel_rfl
theorem pm_slot_init : Slot "itertools.permutations" "__init__" "object.__init__" :=
  .of (owner := "object") (n := "__init__") (by (rw [typeLookup_type, builtinLookup_eq_fast]); kernel_rfl) (by decide +kernel) (by decide +kernel) (by decide +kernel) (by first | exact .inl (by decide +kernel) | exact .inr (by decide +kernel)) (by rw [isSubtype_type]; kernel_rfl)
theorem pm_sub : isSubtype (.type "itertools.permutations") (.type "itertools.permutations") = pure true := by rw [isSubtype_type]; kernel_rfl
theorem pm_called : TypeCalled "itertools.permutations" "itertools.permutations.__new__" "object.__init__" :=
  ⟨by decide +kernel, by decide +kernel, ⟨_, _, pm_mro⟩, madeBy_type pm_mro pm_lookup_new (by decide +kernel), by decide +kernel, pm_sub, pm_slot_init⟩
theorem pm_typeCall (a : Value) : checkTypeCall "itertools.permutations" ⟨[a], []⟩ = pure () := by kernel_rfl
theorem pm_newCall (a : Value) : checkBuiltinCall "itertools.permutations.__new__" ⟨[.type "itertools.permutations", a], []⟩ = pure () := by kernel_rfl
theorem pm_entry_new : entryFor table "itertools.permutations.__new__" = some Builtin.«itertools.permutations.__new__» := entryFor_of_tree (by kernel_rfl)
theorem pm_plain_new : plainId "itertools.permutations.__new__" = true := by decide +kernel
theorem pm_slot_iter : Slot "itertools.permutations" "__iter__" "itertools.permutations.__iter__" :=
  .of (owner := "itertools.permutations") (n := "__iter__") (by (rw [typeLookup_type, builtinLookup_eq_fast]); kernel_rfl) (by decide +kernel) (by decide +kernel) (by decide +kernel) (by first | exact .inl (by decide +kernel) | exact .inr (by decide +kernel)) pm_sub
theorem pm_slot_next : Slot "itertools.permutations" "__next__" "itertools.permutations.__next__" :=
  .of (owner := "itertools.permutations") (n := "__next__") (by (rw [typeLookup_type, builtinLookup_eq_fast]); kernel_rfl) (by decide +kernel) (by decide +kernel) (by decide +kernel) (by first | exact .inl (by decide +kernel) | exact .inr (by decide +kernel)) pm_sub
theorem pm_entry_iter : entryFor table "itertools.permutations.__iter__" = some Builtin.«dict_keyiterator.__iter__» :=
  entryFor_alias (id' := "dict_keyiterator.__iter__") (by kernel_rfl) (by first | (unfold String.splitOn; simp +decide [String.splitOnAux]) | rfl | decide +kernel) (by decide +kernel) (by kernel_rfl)
theorem pm_entry_next : entryFor table "itertools.permutations.__next__" = some Builtin.«itertools.permutations.__next__» := entryFor_of_tree (by kernel_rfl)
def pmRev : List Char := ['s', 'n', 'o', 'i', 't', 'a', 't', 'u', 'm', 'r', 'e', 'p', '.', 's', 'l', 'o', 'o', 't', 'r', 'e', 't', 'i']
theorem pm_owner : Manifest.owners.lookup (String.ofList pmRev.reverse) = some Manifest.sig_itertools_permutations := by kernel_rfl
theorem pm_args_iter (a : Value) : argsOk "itertools.permutations.__iter__" ⟨[a], []⟩ := by
  unfold argsOk; rw [signature?_of (id := "itertools.permutations.__iter__") (n := "__iter__".toList.reverse) (o := pmRev) (by kernel_rfl) pm_owner]; kernel_rfl
theorem pm_args_next (a : Value) : argsOk "itertools.permutations.__next__" ⟨[a], []⟩ := by
  unfold argsOk; rw [signature?_of (id := "itertools.permutations.__next__") (n := "__next__".toList.reverse) (o := pmRev) (by kernel_rfl) pm_owner]; kernel_rfl
theorem pm_noDict : typeHasDict (.type "itertools.permutations") = false := by decide +kernel
/-! ### the record -/
def numsF (l : List Nat) : List Value := l.map fun (i : Nat) => rawInt (i : Int)
def pmObj (T : Addr) (st : Int) (n : Nat) (pv : Value) (L : List Nat) : Obj := { cls := .type "itertools.permutations", dict := none, data := .fields ([Value.ref T, rawInt st, rawInt (n : Int), pv] ++ numsF L).toArray, slots := #[] }
def startL (n : Nat) : List Nat := List.range n ++ (List.range n).map fun i => n - i
end TC

set_option Elab.async false
set_option linter.all false
set_option maxRecDepth 100000
set_option maxHeartbeats 2000000
namespace TC
open PySem PySem.Spec PyProof.Rows L2
theorem pm_cls (r : Addr) : Builtin.Itertools.itClassAndRest "permutations" ⟨[.type "itertools.permutations", .ref r], []⟩ = pure (.type "itertools.permutations", [.ref r]) := by
  unfold Builtin.Itertools.itClassAndRest
  have e : (("itertools." ++ "permutations" : String)) = "itertools.permutations" := by decide
  simp only [e]
  have h : isType (.type "itertools.permutations") = pure true := by kernel_rfl
  rw [h, pm_sub]
  kernel_rfl
theorem pm_bind (r : Addr) : Builtin.Itertools.itBindNamed "permutations" ["iterable", "r"] 1 2 [.ref r] [] = pure [some (.ref r), none] := by kernel_rfl
end TC

set_option Elab.async false
set_option linter.all false
set_option maxRecDepth 100000
set_option maxHeartbeats 2000000
namespace TC
open PySem PySem.Spec PyProof.Rows L2
def pmT (acc : Array Value) : Obj := { cls := .type "tuple", data := .seq acc }
def pmHp (h : Heap) (n : Nat) (acc : Array Value) : Heap := (h.push (pmT acc)).push (pmObj h.objs.size 0 n .none (startL n))
section
variable {prog : Program} {w : World} {A : Around} {E : Value → Shared → Prop} {s : Shared}
theorem pm_code_new {Q : Value → Shared → Prop} {r : Addr} {n : Nat} {t u v : Tok} (hh : A.handled = none) (hr : IsRange s.heap r 0 n 1 t u v) (hn : n = 2 ∨ n = 3 ∨ n = 4 ∨ n = 5)
    (h : ∀ (h' : Heap) (tk : Nat) (acc : Array Value), (∀ b o, s.heap.get? b = some o → h'.get? b = some o) → ItemsOf (fun i v => ∃ t, v = .int (0 + i * 1) t) acc n → Q (.ref (h'.objs.size + 1)) { s with heap := pmHp h' n acc, toks := tk }) :
    codeAny (model prog w) A (.call (.builtin "itertools.permutations.__new__") ⟨[.type "itertools.permutations", .ref r], []⟩) (wants Q E) s := by
  refine codeAny_of_tree ?_
  show wpAny _ A.in1 (do checkBuiltinCall "itertools.permutations.__new__" ⟨[.type "itertools.permutations", .ref r], []⟩; again (.builtin "itertools.permutations.__new__" ⟨[.type "itertools.permutations", .ref r], []⟩)) _ _ s
  refine wpAny_bind (wpAny_of_eq (pm_newCall _) (wpAny_pure ⟨plainId_quiet pm_plain_new _, codeAny_builtin pm_entry_new ?_⟩))
  rw [Around.under_plainId pm_plain_new _]
  have hd := pm_noDict
  have hh1 : A.in1.handled = none := hh
  have hsm : Builtin.Range.small 0 n 1 = true := small_one (by omega) (by omega) (by omega) (by omega)
  have hrs : Builtin.Range.rangeSize 0 n 1 = n := by
    have := rangeSize_nat 0 (n : Int)
    rw [this]
    omega
  unfold Builtin.«itertools.permutations.__new__»
  refine wpAny_bind (wpAny_of_eq (pm_cls r) ?_)
  refine wpAny_bind (wpAny_of_eq (pm_bind r) ?_)
  refine wpAny_bind (collect_range (A := A.in1) hh1 hr hsm hrs (by omega) fun h' tk acc hk hi => ?_)
  have hlen : acc.toList.length = n := by rw [Array.length_toList]; exact hi.1
  refine wpAny_bind (wpAny_pure ?_)
  simp only [hlen]
  rw [if_neg (by omega), if_neg (by
    have z : Builtin.Itertools.itTooMany (n : Int) = false := by rcases hn with e | e | e | e <;> subst e <;> decide
    rw [z]; decide)]
  simp only [Int.toNat_natCast]
  refine wpAny_bind (wpAny_newTuple ?_)
  refine wpAny_bind ?_
  unfold Builtin.Itertools.itNewRecord
  rw [hd]
  rw [if_pos (by decide)]
  have eS : acc.toList.toArray = acc := by simp
  have eL : ([Value.ref h'.objs.size, rawInt (if n > n then 2 else 0), rawInt (n : Int), Value.none] ++ List.map (fun (i : Nat) => rawInt (i : Int)) (List.range n) ++ List.map (fun (i : Nat) => rawInt ((n : Int) - i)) (List.range n)).toArray =
      ([Value.ref h'.objs.size, rawInt 0, rawInt (n : Int), .none] ++ numsF (startL n)).toArray := by
    rcases hn with e | e | e | e <;> subst e <;> rfl
  refine wpAny_newObj_type (wpAny_pure ?_) (by
    show _ ≤ sizeLine + 2
    rw [List.size_toArray, sizeLine_eq]
    simp only [List.length_append, List.length_map, List.length_range, List.length_cons, List.length_nil]
    omega)
  have q := h h' tk acc hk hi
  unfold pmHp pmObj pmT at q
  rw [← eL, ← eS] at q
  show Q (.ref (h'.push _).objs.size) _
  rw [Heap.size_push]
  exact q
theorem pmHp_it (h : Heap) (n : Nat) (acc : Array Value) : (pmHp h n acc).get? (h.objs.size + 1) = some (pmObj h.objs.size 0 n .none (startL n)) := by
  have q := Heap.get?_push_size (h.push (pmT acc)) (o := pmObj h.objs.size 0 n .none (startL n)) rfl
  rw [Heap.size_push] at q
  exact q
theorem pmHp_T (h : Heap) (n : Nat) (acc : Array Value) : (pmHp h n acc).get? h.objs.size = some (pmT acc) := Heap.get?_push_of_some _ (Heap.get?_push_size _ rfl)
theorem pm_call {Q : Value → Shared → Prop} {r : Addr} {n : Nat} {t u v : Tok} (hh : A.handled = none) (hr : IsRange s.heap r 0 n 1 t u v) (hn : n = 2 ∨ n = 3 ∨ n = 4 ∨ n = 5)
    (h : ∀ (h' : Heap) (tk : Nat) (acc : Array Value), (∀ b o, s.heap.get? b = some o → h'.get? b = some o) → ItemsOf (fun i v => ∃ t, v = .int (0 + i * 1) t) acc n → Q (.ref (h'.objs.size + 1)) { s with heap := pmHp h' n acc, toks := tk }) :
    wpAny (model prog w) A (call (.type "itertools.permutations") [.ref r]) Q E s := by
  refine callType_codes (Q₁ := fun obj s₁ => s₁.TypeIs obj "itertools.permutations" ∧ Q obj s₁) pm_called (pm_typeCall _) F.entry_object_init
    (pm_code_new (A := A.in1) hh hr hn fun h' tk acc a1 a2 => ⟨⟨_, pmHp_it h' n acc, rfl⟩, h h' tk acc a1 a2⟩) fun obj s₁ h₁ => ?_
  exact ⟨h₁.1, F.args_object_init_2 obj _, object_init_meets pm_called.init.lookup pm_called.made (by decide) prog w A.in1 _ s₁ ⟨h₁.1, rfl, h₁.2⟩⟩
theorem pm_iter {it T : Addr} {st : Int} {n : Nat} {pv : Value} {L : List Nat} {Q : Value → Shared → Prop} (hit : s.heap.get? it = some (pmObj T st n pv L)) (h : Q (.ref it) s) : wpAny (model prog w) A (pyIter (.ref it)) Q E s := by
  have ty : s.TypeIs (.ref it) "itertools.permutations" := ⟨_, hit, rfl⟩
  exact wpAny_pyIter_slot ty pm_slot_iter (wpAny_call_entry pm_slot_iter ty pm_entry_iter (show wpAny _ _ (ret (.ref it)) _ _ s from wpAny_pure ⟨_, rfl, "itertools.permutations", _, ty, pm_slot_next.lookup, h⟩) (pm_args_iter _))
/-! ### its next -/
theorem numsF_back (L : List Nat) : (numsF L).map (fun v => match v with | .int n _ => n.toNat | _ => 0) = L := by
  unfold numsF
  rw [List.map_map]
  have e : ∀ i ∈ L, ((fun v : Value => match v with | .int n _ => n.toNat | _ => 0) ∘ fun (i : Nat) => rawInt (i : Int)) i = i := fun i _ => rfl
  rw [List.map_congr_left e, List.map_id']
theorem pm_numbers {it T : Addr} {st : Int} {n : Nat} {pv : Value} {L : List Nat} {Q : List Nat → Shared → Prop} (hit : s.heap.get? it = some (pmObj T st n pv L)) (h : Q L s) : wpAny (model prog w) A (Builtin.Itertools.itNumbersFrom (.ref it) 4) Q E s := by
  unfold Builtin.Itertools.itNumbersFrom
  refine wpAny_bind (wpAny_load hit (wpAny_pure ?_))
  have h2 : Q ((numsF L).map (fun v => match v with | .int n _ => n.toNat | _ => 0)) s := by
    rw [numsF_back]
    exact h
  exact h2
theorem pm_field {it T : Addr} {st : Int} {n : Nat} {pv : Value} {L : List Nat} {i : Nat} {x : Value} {Q : Value → Shared → Prop} (hit : s.heap.get? it = some (pmObj T st n pv L)) (hx : ([Value.ref T, rawInt st, rawInt (n : Int), pv])[i]? = some x) (h : Q x s) :
    wpAny (model prog w) A (field (.ref it) i) Q E s := by
  refine wpAny_field hit rfl (x := x) ?_ h
  have hl := (List.getElem?_eq_some_iff.mp hx).1
  rw [List.getElem?_toArray, List.getElem?_append_left hl]
  exact hx
theorem pm_set3 (a b c d x : Value) (l : List Value) : (([a, b, c, d] ++ l).toArray).setIfInBounds 3 x = ([a, b, c, x] ++ l).toArray := by simp
theorem pm_set1 (a b c d x : Value) (l : List Value) : (([a, b, c, d] ++ l).toArray).setIfInBounds 1 x = ([a, x, c, d] ++ l).toArray := by simp
theorem pm_ext (a b c d : Value) (l m : List Value) : (([a, b, c, d] ++ l).toArray).extract 0 4 ++ m.toArray = ([a, b, c, d] ++ m).toArray := by simp
theorem pm_result {it T : Addr} {st : Int} {n r : Nat} {pv : Value} {L I : List Nat} {items : Array Value} {Q : Value → Shared → Prop} (hit : s.heap.get? it = some (pmObj T st n pv L)) (hI : (I.take r).length ≤ 100)
    (k : ∀ h', h'.get? it = some (pmObj T st n (.ref s.heap.objs.size) L) → h'.get? s.heap.objs.size = some (pmT ((I.take r).map fun i => items.getD i .none).toArray) → (∀ c o, c ≠ it → s.heap.get? c = some o → h'.get? c = some o) → Q (.ref s.heap.objs.size) { s with heap := h' }) :
    wpAny (model prog w) A (do
      let t ← newTuple ((I.take r).map fun i => items.getD i .none)
      let before ← field (.ref it) 3
      setField (.ref it) 3 t
      letGo [before] [t]
      ret t) (fun fin s' => ∃ v, fin = .done (.ret v) ∧ Q v s') E s := by
  have hlt : it < s.heap.objs.size := Heap.lt_size hit
  refine wpAny_bind (wpAny_newTuple ?_ (by rw [List.length_map, sizeLine_eq]; omega))
  have h1 : (s.heap.push (pmT ((I.take r).map fun i => items.getD i .none).toArray)).get? it = some (pmObj T st n pv L) := Heap.get?_push_of_some _ hit
  refine wpAny_bind (pm_field h1 rfl ?_)
  refine wpAny_bind (wpAny_setField_rec h1 (by simp) fun h2 z2 k2 => wpAny_bind (wpAny_letGo (wpAny_pure ⟨_, rfl, ?_⟩)))
  rw [pm_set3] at z2
  exact k h2 z2 (k2.extBut _ _ (Nat.ne_of_gt hlt) (Heap.get?_push_size _ rfl)) fun c o e q => k2.extBut _ _ e (Heap.get?_push_of_some _ q)
theorem pm_first {it T : Addr} {n : Nat} {pv : Value} {L : List Nat} {items : Array Value} {Q : Value → Shared → Prop} (hit : s.heap.get? it = some (pmObj T 0 n pv L)) (hT : s.heap.get? T = some (pmT items)) (hI : (L.take n).length ≤ 100)
    (k : ∀ h', h'.get? it = some (pmObj T 1 n (.ref s.heap.objs.size) L) → h'.get? s.heap.objs.size = some (pmT ((L.take n).map fun i => items.getD i .none).toArray) → (∀ c o, c ≠ it → s.heap.get? c = some o → h'.get? c = some o) → Q (.ref s.heap.objs.size) { s with heap := h' }) :
    wpAny (model prog w) A (Builtin.«itertools.permutations.__next__» ⟨[.ref it], []⟩) (fun fin s' => ∃ v, fin = .done (.ret v) ∧ Q v s') E s := by
  show wpAny _ _ (field (.ref it) 0 >>= _) _ _ s
  refine wpAny_bind (pm_field hit rfl ?_)
  refine wpAny_bind (wpAny_bind (wpAny_seqItems hT rfl (wpAny_pure ?_)))
  refine wpAny_bind (wpAny_bind (pm_field hit rfl (wpAny_pure ?_)))
  refine wpAny_bind (pm_numbers hit ?_)
  refine wpAny_bind (wpAny_bind (pm_field hit rfl (wpAny_pure ?_)))
  refine wpAny_bind (wpAny_setField_rec hit (by simp) fun h1 z1 k1 => ?_)
  rw [pm_set1] at z1
  have sz : h1.objs.size = s.heap.objs.size := k1.1
  refine pm_result (s := { s with heap := h1 }) (L := L) (st := 1) (T := T) (n := n) (pv := pv) z1 (by simpa using hI) fun h2 a b c => ?_
  have a : h2.get? it = some (pmObj T 1 n (.ref h1.objs.size) L) := a
  have b : h2.get? h1.objs.size = _ := b
  rw [sz] at a b
  show Q (.ref h1.objs.size) { s with heap := h2 }
  rw [sz]
  exact k h2 a b fun x o e q => c x o e (k1.extBut _ _ e q)
end
end TC

set_option Elab.async false
set_option linter.all false
set_option maxRecDepth 100000
set_option maxHeartbeats 2000000
namespace TC
open PySem PySem.Spec PyProof.Rows L2
def lexP : Nat → List Nat → List (List Nat)
  | 0, _ => [[]]
  | k + 1, xs => xs.flatMap fun x => (lexP k (xs.erase x)).map (x :: ·)
def permN (n : Nat) : List (List Nat) := lexP n (List.range n)
abbrev NPt := Nat → Nat → List Nat → List Nat → Option (List Nat × List Nat)
def latP (np : NPt) (n : Nat) : Nat → Option (List Nat)
  | 0 => some (startL n)
  | k + 1 => match latP np n k with
    | some L => match np n n (L.take n) (L.drop n) with
      | some (i, c) => some (i ++ c)
      | none => none
    | none => none
def chkP (np : NPt) (n : Nat) : (rows : List (List Nat)) → (L : List Nat) → Bool
  | [], L => (np n n (L.take n) (L.drop n)).isNone
  | x :: r, L => match np n n (L.take n) (L.drop n) with
    | some (i, c) => i.take n == x && decide ((i ++ c).length ≤ 20) && x.all (fun k => decide (k < n)) && decide (x.length ≤ 20) && chkP np n r (i ++ c)
    | none => false
def chkP0 (np : NPt) (n : Nat) : Bool := match permN n with
  | x :: r => (startL n).take n == x && x.all (fun k => decide (k < n)) && decide (x.length ≤ 20) && chkP np n r (startL n)
  | [] => false
theorem np_ex : ∃ np : NPt,
    (∀ {prog : Program} {w : World} {A : Around} {E : Value → Shared → Prop} {s : Shared} {it T : Addr} {n : Nat} {pv : Value} {L I C : List Nat} {items : Array Value} {Q : Value → Shared → Prop}, s.heap.get? it = some (pmObj T 1 n pv L) → s.heap.get? T = some (pmT items) →
      items.size = n → np n n (L.take n) (L.drop n) = some (I, C) → (I ++ C).length ≤ 20 → (I.take n).length ≤ 20 →
      (∀ h', h'.get? it = some (pmObj T 1 n (.ref s.heap.objs.size) (I ++ C)) → h'.get? s.heap.objs.size = some (pmT ((I.take n).map fun i => items.getD i .none).toArray) → (∀ c o, c ≠ it → s.heap.get? c = some o → h'.get? c = some o) → Q (.ref s.heap.objs.size) { s with heap := h' }) →
      wpAny (model prog w) A (Builtin.«itertools.permutations.__next__» ⟨[.ref it], []⟩) (fun fin s' => ∃ v, fin = .done (.ret v) ∧ Q v s') E s) ∧
    (∀ {prog : Program} {w : World} {A : Around} {E : Value → Shared → Prop} {s : Shared} {it T : Addr} {n : Nat} {pv : Value} {L : List Nat} {items : Array Value} {Q : Fin → Shared → Prop}, A.handled = none → s.heap.get? it = some (pmObj T 1 n pv L) → s.heap.get? T = some (pmT items) →
      items.size = n → np n n (L.take n) (L.drop n) = none → (∀ h' e, (∀ c o, c ≠ it → s.heap.get? c = some o → h'.get? c = some o) → (∃ o, h'.get? e = some o ∧ o.cls = .type "StopIteration") → E (.ref e) { s with heap := h' }) →
      wpAny (model prog w) A (Builtin.«itertools.permutations.__next__» ⟨[.ref it], []⟩) Q E s) ∧
    ([2, 3, 4, 5].all (chkP0 np) = true) := by
  apply Exists.intro
  refine ⟨?_, ?_, ?_⟩
  · intro prog w A E s it T n pv L I C items Q hit hT hz hn hl hI k
    show wpAny _ _ (field (.ref it) 0 >>= _) _ _ s
    refine wpAny_bind (pm_field hit rfl ?_)
    refine wpAny_bind (wpAny_bind (wpAny_seqItems hT rfl (wpAny_pure ?_)))
    refine wpAny_bind (wpAny_bind (pm_field hit rfl (wpAny_pure ?_)))
    refine wpAny_bind (pm_numbers hit ?_)
    refine wpAny_bind (wpAny_bind (pm_field hit rfl (wpAny_pure ?_)))
    subst hz
    simp only [Int.toNat_natCast]
    split
    · rename_i i2 c2 heq
      have e := heq.symm.trans hn
      cases e
      refine wpAny_bind ?_
      unfold Builtin.Itertools.itSetNumbersFrom
      refine wpAny_updateFields hit rfl ?_ ?_
      · have z1 : (s.heap.update it (Obj.mapFields fun fs => fs.extract 0 4 ++ ((I ++ C).map fun (n : Nat) => rawInt (n : Int)).toArray)).get? it = some (pmObj T 1 items.size pv (I ++ C)) := by
          have q := Heap.get?_update_self (Obj.mapFields fun fs => fs.extract 0 4 ++ ((I ++ C).map fun (n : Nat) => rawInt (n : Int)).toArray) hit rfl
          rw [q]
          show some _ = some _
          refine congrArg some ?_
          unfold pmObj Obj.mapFields
          simp only [pm_ext]
          rfl
        have k1 : Heap.SameBut it s.heap (s.heap.update it (Obj.mapFields fun fs => fs.extract 0 4 ++ ((I ++ C).map fun (n : Nat) => rawInt (n : Int)).toArray)) := Heap.SameBut.update ..
        generalize (s.heap.update it (Obj.mapFields fun fs => fs.extract 0 4 ++ ((I ++ C).map fun (n : Nat) => rawInt (n : Int)).toArray)) = h1 at z1 k1
        have sz : h1.objs.size = s.heap.objs.size := k1.1
        refine pm_result (s := { s with heap := h1 }) (L := I ++ C) (I := I) (st := 1) (T := T) (n := items.size) (pv := pv) z1 (by omega) fun h2 a b c => ?_
        have a : h2.get? it = some (pmObj T 1 items.size (.ref h1.objs.size) (I ++ C)) := a
        have b : h2.get? h1.objs.size = _ := b
        rw [sz] at a b
        show Q (.ref h1.objs.size) { s with heap := h2 }
        rw [sz]
        exact k h2 a b fun x o e q => c x o e (k1.extBut _ _ e q)
      · rw [pm_ext, List.size_toArray, sizeLine_eq]
        simp only [List.length_append, List.length_map, List.length_cons, List.length_nil] at hl ⊢
        omega
    · rename_i heq
      have e := heq.symm.trans hn
      cases e
  · intro prog w A E s it T n pv L items Q hh hit hT hz hn k
    show wpAny _ _ (field (.ref it) 0 >>= _) _ _ s
    refine wpAny_bind (pm_field hit rfl ?_)
    refine wpAny_bind (wpAny_bind (wpAny_seqItems hT rfl (wpAny_pure ?_)))
    refine wpAny_bind (wpAny_bind (pm_field hit rfl (wpAny_pure ?_)))
    refine wpAny_bind (pm_numbers hit ?_)
    refine wpAny_bind (wpAny_bind (pm_field hit rfl (wpAny_pure ?_)))
    subst hz
    simp only [Int.toNat_natCast]
    split
    · rename_i heq
      have e := heq.symm.trans hn
      cases e
    · refine wpAny_bind (wpAny_setField_rec hit (by simp) fun h1 z1 k1 => ?_)
      unfold Builtin.Itertools.itStop
      show wpAny _ _ (newExc (.type "StopIteration") [] >>= _) _ _ _
      refine wpAny_bind ?_
      simp only [newExc, newTuple]
      refine wpAny_bind (wpAny_newObj_type ?_ (by size_fits))
      refine wpAny_bind (m := firstArgMember _ _) (wpAny_of_eq (a := Value.none) (by first | (simp only [firstArgMember]; rfl) | rfl) (wpAny_newObj_type ?_ (by size_fits)))
      simp only [raiseNew]
      refine wpAny_bind (wpAny_handled ?_)
      first | rw [hh] | rw [show A.in1.handled = none from hh]
      refine wpAny_bind (wpAny_pure (wpAny_throw (k _ _ (fun c o e q => ?_) ⟨_, Heap.get?_push_size _ rfl, rfl⟩)))
      exact Heap.get?_push_of_some _ (Heap.get?_push_of_some _ (k1.extBut _ _ e q))
  · exact of_decide_eq_true (by kernel_rfl)
end TC

set_option Elab.async false
set_option linter.all false
set_option maxRecDepth 100000
set_option maxHeartbeats 2000000
/-! for x in permutations(range(n)), n from 2 to 5. -/
namespace TC
open PySem PySem.Spec PyProof.Rows L2
noncomputable def npF : NPt := Classical.choose np_ex
theorem npF_chk {n : Nat} (hn : n = 2 ∨ n = 3 ∨ n = 4 ∨ n = 5) : chkP0 npF n = true := by
  have h := (Classical.choose_spec np_ex).2.2
  have h := List.all_eq_true.mp h n (by rcases hn with e | e | e | e <;> subst e <;> decide)
  exact h
def pmV (x : List Nat) : List V := x.map fun (k : Nat) => V.int (k : Int)
def Itp (rows : List (List Nat)) : It := ⟨fun i _ => i < rows.length,
  fun i H v H' => ∃ (T : Addr) (o : Obj) (x : List Nat), v = .ref T ∧ H T = none ∧ o.dict = none ∧ rows[i]? = some x ∧ H' = upd H T (.frz o (.tup (pmV x))),
  fun i _ => i = rows.length⟩
def PmOk (n : Nat) (items : Array Value) : Prop := items.size = n ∧ ∀ k, k < n → ∃ t, items[k]? = some (.int (k : Int) t)
/-- at turn i the record has L -/
def PmL (n i : Nat) (L : List Nat) : Prop := (i = 0 ∧ L = startL n) ∨ (0 < i ∧ chkP npF n ((permN n).drop i) L = true)
def pmTn (it T : Addr) (n : Nat) (items : Array Value) (i : Nat) (h : Heap) : Prop := ∃ pv L, h.get? it = some (pmObj T (if i = 0 then 0 else 1) n pv L) ∧ h.get? T = some (pmT items) ∧ PmL n i L
theorem pm_vals {n : Nat} {items : Array Value} (h : PmOk n items) : ∀ {x : List Nat}, x.all (fun k => decide (k < n)) = true → Vals (pmV x) (x.map fun i => items.getD i .none)
  | [], _ => .nil
  | k :: r, hx => by
    rw [List.all_cons, Bool.and_eq_true] at hx
    obtain ⟨t, ht⟩ := h.2 k (of_decide_eq_true hx.1)
    refine .cons ⟨t, ?_⟩ (pm_vals h hx.2)
    show items.getD k .none = _
    rw [Array.getD_eq_getD_getElem?, ht]
    rfl
theorem chk_cons {n : Nat} {x : List Nat} {r : List (List Nat)} {L : List Nat} (h : chkP npF n (x :: r) L = true) : ∃ I C, npF n n (L.take n) (L.drop n) = some (I, C) ∧ I.take n = x ∧ (I ++ C).length ≤ 20 ∧ x.all (fun k => decide (k < n)) = true ∧ x.length ≤ 20 ∧ chkP npF n r (I ++ C) = true := by
  unfold chkP at h
  split at h
  · rename_i I C e
    simp only [Bool.and_eq_true, beq_iff_eq, decide_eq_true_eq] at h
    exact ⟨I, C, e, h.1.1.1.1, h.1.1.1.2, h.1.1.2, h.1.2, h.2⟩
  · cases h
theorem pm_turn {P : Program} {w : World} {K : PySem.W.Frag} {tg : Expr} {it T : Addr} {n : Nat} {items : Array Value} (hn : n = 2 ∨ n = 3 ∨ n = 4 ∨ n = 5) (ok : PmOk n items) : Turn P w K tg (Itp (permN n)) [it, T] it (pmTn it T n items) where
  mem := by simp
  obj := fun i h ⟨pv, L, a, b, _⟩ c hc => by
    have e' : c = it ∨ c = T := by simpa using hc
    rcases e' with q | q
    · rw [q]; exact ⟨_, a, fun v z => nomatch z⟩
    · rw [q]; exact ⟨_, b, fun v z => nomatch z⟩
  keep := fun i h h' ⟨pv, L, a, b, c⟩ k => ⟨pv, L, k it (by simp) _ a, k T (by simp) _ b, c⟩
  item := by
    intro X hP hw hK hc i pins s σ H E I hf st hg
    subst hP hw hK
    obtain ⟨pv, L, a, b, hL⟩ := st
    have ne : T ≠ it := fun z => by
      rw [z, a] at b
      have e := congrArg Obj.cls (Option.some.inj b)
      exact absurd (show (Value.type "itertools.permutations") = .type "tuple" from e) (by decide)
    have ty : s.TypeIs (.ref it) "itertools.permutations" := ⟨_, a, rfl⟩
    have fin : ∀ {h' : Heap} {L' x : List Nat}, h'.get? it = some (pmObj T 1 n (.ref s.heap.objs.size) L') → h'.get? s.heap.objs.size = some (pmT (x.map fun i => items.getD i .none).toArray) → (∀ c o, c ≠ it → s.heap.get? c = some o → h'.get? c = some o) →
        (permN n)[i]? = some x → x.all (fun k => decide (k < n)) = true → x.length ≤ 20 → PmL n (i + 1) L' →
        ∃ u, some (Value.ref s.heap.objs.size) = some u ∧ wpAny (model X.prog X.w) X.A (letOwnedTupleGo tg (.ref it) u) (fun _ s2 => ∃ x H', Inv X pins σ H' s2 ∧ RelV x u ∧ (Itp (permN n)).yld i H x H' ∧ pmTn it T n items (i + 1) s2.heap ∧ ∀ b ∈ [it, T], H' b = none) E { s with heap := h' } := by
      intro h' L' x z1 z2 z3 hx hxa hxl hL'
      refine ⟨_, rfl, go_of (s := { s with heap := h' }) z1 rfl rfl (by decide) ?_⟩
      have v := pm_vals ok hxa
      have new : ObjOk X.prog X.w (upd H s.heap.objs.size (.frz (pmT (x.map fun i => items.getD i .none).toArray) (.tup (pmV x)))) h' s.heap.objs.size (.frz (pmT (x.map fun i => items.getD i .none).toArray) (.tup (pmV x))) :=
        ⟨z2, (by unfold pmV; rw [List.length_map, sizeLine_eq]; omega), _, v, ⟨_, z2, rfl, _, rfl⟩⟩
      have I1 : Inv X pins σ (upd H s.heap.objs.size (.frz (pmT (x.map fun i => items.getD i .none).toArray) (.tup (pmV x)))) { s with heap := h' } :=
        I.turnedNew (t' := s.toks) (ch := [it]) (fun c o hb q => z3 c o (by simpa using hb) q) (fun c hc => hf c (by simp at hc; simp [hc])) (Nat.le_refl _) new
      refine ⟨.ref s.heap.objs.size, _, I1, rfl, ⟨_, _, x, rfl, I.hok.fresh (Nat.le_refl _), rfl, hx, rfl⟩, ⟨_, L', by rw [if_neg (by omega)]; exact z1, z3 _ _ ne b, hL'⟩, fun c hcm => ?_⟩
      have hlt : c < s.heap.objs.size := by
        have e' : c = it ∨ c = T := by simpa using hcm
        rcases e' with q | q
        · rw [q]; exact Heap.lt_size a
        · rw [q]; exact Heap.lt_size b
      rw [upd_ne (Nat.ne_of_lt hlt)]
      exact (hf c hcm).1
    unfold pyNext
    refine wpAny_bind (wpAny_attempt (wpAny_callSpecial?_slot (name := Str.ofString "__next__") ty pm_slot_next (wpAny_call_entry pm_slot_next ty pm_entry_next ?_ (pm_args_next _))))
    have hg : i < (permN n).length := hg
    rcases hL with ⟨e0, eL⟩ | ⟨e0, hc⟩
    · subst e0 eL
      have c0 := npF_chk hn
      unfold chkP0 at c0
      split at c0
      · rename_i x r er
        simp only [Bool.and_eq_true, beq_iff_eq, decide_eq_true_eq] at c0
        obtain ⟨⟨⟨c1, c2⟩, c3⟩, c4⟩ := c0
        refine pm_first a b (by rw [c1]; omega) fun h' z1 z2 z3 => wpAny_pure ?_
        rw [c1] at z2
        exact fin z1 z2 z3 (by rw [er]; rfl) c2 c3 (.inr ⟨by omega, by rw [er]; exact c4⟩)
      · cases c0
    · rw [if_neg (by omega)] at a
      rw [List.drop_eq_getElem_cons hg] at hc
      obtain ⟨J, C, h1, h2, h3, h4, h5, h6⟩ := chk_cons hc
      refine (Classical.choose_spec np_ex).1 a b ok.1 h1 h3 (by rw [h2]; exact h5) fun h' z1 z2 z3 => wpAny_pure ?_
      rw [h2] at z2
      exact fin z1 z2 z3 (List.getElem?_eq_getElem hg) h4 h5 (.inr ⟨by omega, h6⟩)
  done := by
    intro X hP hw hK hc i pins s σ H E I hf st hg
    subst hP hw hK
    obtain ⟨pv, L, a, b, hL⟩ := st
    have ty : s.TypeIs (.ref it) "itertools.permutations" := ⟨_, a, rfl⟩
    have hg : i = (permN n).length := hg
    rcases hL with ⟨e0, eL⟩ | ⟨e0, hcc⟩
    · rcases hn with e | e | e | e <;> subst e <;> rw [e0] at hg <;> exact absurd hg (by decide +kernel)
    · rw [if_neg (by omega)] at a
      rw [hg, List.drop_length] at hcc
      unfold chkP at hcc
      unfold pyNext
      refine wpAny_bind (wpAny_attempt (wpAny_callSpecial?_slot (name := Str.ofString "__next__") ty pm_slot_next (wpAny_call_entry pm_slot_next ty pm_entry_next ((Classical.choose_spec np_ex).2.1 (I.ok.hd hc) a b ok.1 (Option.isNone_iff_eq_none.mp hcc) fun h' e old he => ?_) (pm_args_next _))))
      obtain ⟨o, ho, hcl⟩ := he
      refine wpAny_bind (wpAny_isInstance (T := "StopIteration") (b := true) ⟨o, ho, hcl⟩ isSubtype_stop (wpAny_pure ⟨rfl, ?_⟩))
      exact I.turnedL (t' := s.toks) (ch := [it]) (fun c o hb q => old c o (by simpa using hb) q) (fun c hc => hf c (by simp at hc; simp [hc]))
  self := fun A i s Q E ⟨pv, L, a, b, c⟩ h => pm_iter a h
def iPm (te : L2.St → Hp → (Int → Int → Hp → Prop) → Prop) : TI := fun σ H R => te σ H fun a b H1 => a = 0 ∧ ∃ n : Nat, b = (n : Int) ∧ (n = 2 ∨ n = 3 ∨ n = 4 ∨ n = 5) ∧ R (Itp (permN n)) H1
theorem pi_perm {X : Cx} {tg e : Expr} {te : L2.St → Hp → (Int → Int → Hp → Prop) → Prop} {x : Str} {p pos : Pos} (hc : X.calm = true) (hg : Gl X x) (hm : X.mg x = some (.type "itertools.permutations")) (he : PRg X e te)
    (na : starEach [e] X.env = (false, eval e X.env) :: starEach [] X.env := by rfl) (hdb : (x == ("__debug__" : Str)) = false := by decide) : PI X tg (.Call (.Name x p) [e] [] pos) (iPm te) := by
  refine ⟨fun pins s σ H R I h => ?_⟩
  refine Call_ (ld_glob I hg hm (PyProof.Rows.callWith_type1 (args_cons (thn (he pins s σ H _ I h) fun v s1 ⟨r, a, b, t, u, z, H1, ex, hr, I1, ea, n, eb, hn, q⟩ => args_nil ?_) na) na) hdb)
  subst ex ea eb
  refine pm_call (I1.ok.hd hc) hr hn fun h' tk acc hk hi => ?_
  have I2 : Inv X pins σ H1 { s1 with heap := h', toks := tk } := I1.kept hk
  have I3 : Inv X pins σ H1 { s1 with heap := pmHp h' n acc, toks := tk } := I2.kept fun b o e => Heap.get?_push_of_some _ (Heap.get?_push_of_some _ e)
  have at1 := pmHp_it h' n acc
  have at2 := pmHp_T h' n acc
  have ok : PmOk n acc := ⟨hi.1, fun k hk' => by
    obtain ⟨t, e⟩ := hi.2 k _ (Array.getElem?_eq_getElem (by rw [hi.1]; exact hk'))
    exact ⟨t, by rw [Array.getElem?_eq_getElem (by rw [hi.1]; exact hk'), e]; simp⟩⟩
  refine pm_iter at1 ⟨h'.objs.size + 1, [h'.objs.size + 1, h'.objs.size], _, _, H1, rfl, I3, pm_turn hn ok, ⟨.none, startL n, at1, at2, .inl ⟨rfl, rfl⟩⟩, fun c hcm => ?_, q⟩
  have hle : h'.objs.size ≤ c := by
    have e' : c = h'.objs.size + 1 ∨ c = h'.objs.size := by simpa using hcm
    rcases e' with q | q <;> rw [q]
    · exact Nat.le_succ _
    · exact Nat.le_refl _
  have f := I2.fpOk (b := c) hle (I2.hok.fresh hle)
  exact f
end TC

set_option Elab.async false
set_option linter.all false
set_option maxRecDepth 100000
set_option maxHeartbeats 2000000
namespace TC
open PySem PySem.Spec PyProof.Rows L2
def pmD (x : List Nat) : D := .tup (x.map fun (k : Nat) => D.int (k : Int))
theorem row_iss {K : PySem.W.Frag} {S : Sts} {α : List Addr} {G : Hp} (x : List Nat) : Iss K S α G (x.map fun (k : Nat) => D.int (k : Int)) (pmV x) := by
  have h := Iss.of_ints (K := K) (S := S) (α := α) (G := G) (x.map fun (k : Nat) => (k : Int))
  rw [List.map_map, List.map_map] at h
  exact h
/-- for x in permutations(range(n)) -/
def wForPm (j : Nat) (was : DA) (body : DS) : DS := fun Γ μ P => was Γ μ (fun ds μ1 => match ds with
  | [.int n] => ∃ m : Nat, n = (m : Int) ∧ (m = 2 ∨ m = 3 ∨ m = 4 ∨ m = 5) ∧ wForL (fun d Γ => some (Γ.set j (some d))) body ((permN m).map pmD) Γ μ1 P
  | _ => False) P.rz
section
variable {X : Cx} {C : Cfg} {W : WX} {tg e : Expr} {j : Nat} {was : DA} {fpos p : Pos} {pos : Pos} {body : List Stmt} {wb : DS} {x : Str}
theorem ds_forPm (hp : PassesOwn (model X.prog X.w) X.A X.env X.xe) (hc : X.calm = true) (hx : Gl X x) (hxm : X.mg x = some (.type "itertools.permutations")) (he : PRg X e (tRgA (canA C W was))) (hg : PG X tg (gName j)) (hb : DSs X C W body wb)
    (na : starEach [e] X.env = (false, eval e X.env) :: starEach [] X.env := by rfl) (hs : ∀ y, foldedSetIterable (.Call (.Name x p) [e] [] pos) X.env y = pure y := by intro _; rfl) (hdb : (x == ("__debug__" : Str)) = false := by decide) :
    DSt X C W (.For tg (.Call (.Name x p) [e] [] pos) body [] fpos) (wForPm j was wb) := (ps_for hp hc (pi_perm hc hx hxm he na hdb) hg hb hs).imp fun D σ H ⟨α, Γ, μ, P, r, w, n, t, b, c, z⟩ => by
  refine ⟨α, Γ, μ, _, _, r, w, fun ds vs α1 μ1 H1 w1 r1 m1 i1 => ?_, z⟩
  split at w1
  · rename_i k
    obtain ⟨m, rfl, hm, w1⟩ := w1
    have ev := one_int i1 rfl
    subst ev
    refine .inl ⟨_, rfl, rfl, m, rfl, hm, ?_⟩
    refine ⟨fun q k σ' H' => k = (permN m).length - q ∧ q ≤ (permN m).length ∧ ∃ α' Γ' μ', Rl C α' σ' H' Γ' μ' ∧ Mv C α1 μ1 H1 α' μ' H' ∧ wForL (fun d Γ => some (Γ.set j (some d))) wb (((permN m).map pmD).drop q) Γ' μ' P, ⟨(permN m).length, by simp, Nat.zero_le _, α1, Γ, μ1, r1, Mv.refl, w1⟩, ?_⟩
    rintro q k σ' H' ⟨rfl, hq, α', Γ', μ', r', m', w'⟩
    rcases Nat.lt_or_ge q (permN m).length with lt | ge
    · right
      refine ⟨lt, fun σ2 H2 => ∃ α' Γ' μ', Rl C α' σ2 H2 Γ' μ' ∧ Mv C α1 μ1 H1 α' μ' H2 ∧ wForL (fun d Γ => some (Γ.set j (some d))) wb (((permN m).map pmD).drop (q + 1)) Γ' μ' P, fun σ2 H2 h2 => ⟨(permN m).length - (q + 1), by omega, rfl, lt, h2⟩, ?_⟩
      rintro v H2 ⟨T, o, y, rfl, hT, ho, hy, rfl⟩
      obtain ⟨r2, m2, i2⟩ := r'.tup hT ho (row_iss y)
      have lt' : q < ((permN m).map pmD).length := by rw [List.length_map]; exact lt
      rw [List.drop_eq_getElem_cons lt', List.getElem_map, (List.getElem?_eq_some_iff.mp hy).2] at w'
      exact ⟨α', _, μ', _, r2.setv i2, w', fun α3 Γ3 μ3 σ3 H3 w3 r3 m3 => ⟨α3, Γ3, μ3, r3, (m'.trans m2).trans m3, w3⟩, fun d v α3 Γ3 μ3 σ3 H3 w3 r3 m3 i3 => t d v α3 Γ3 μ3 σ3 H3 w3 r3 ((m1.trans (m'.trans m2)).trans m3) i3,
        fun α3 Γ3 μ3 σ3 H3 w3 r3 m3 => n α3 Γ3 μ3 σ3 H3 w3 r3 ((m1.trans (m'.trans m2)).trans m3), fun α3 Γ3 μ3 σ3 H3 w3 r3 m3 => ⟨α3, Γ3, μ3, r3, (m'.trans m2).trans m3, w3⟩, z.mv (m1.trans (m'.trans m2))⟩
    · left
      obtain rfl : q = (permN m).length := by omega
      have ln : (permN m).length = ((permN m).map pmD).length := (List.length_map _).symm
      rw [ln, List.drop_length] at w'
      exact ⟨rfl, n α' Γ' μ' σ' H' w' r' (m1.trans m')⟩
  · exact w1.elim
end
end TC

set_option Elab.async false
set_option linter.all false
set_option maxRecDepth 100000
set_option maxHeartbeats 2000000
/-! < of tuples of any alike data; sorted of a list of tuples of numbers. -/
namespace TC
open PySem PySem.Spec PyProof.Rows L2
def rLtP (K : PySem.W.Frag) : R2 := fun x y H Q => ∃ d e, Dp K H x d ∧ Dp K H y e ∧ PySem.W.alike d e = true ∧ d ≠ .none ∧ d.depth ≤ 60 ∧ Q (.bl (PySem.W.dataLt d e)) H
theorem op_ltP {X : Cx} (hu : X.A.units + 65 < cLine) : OpR X (compareOp .Lt) (rLtP X.K) := by
  intro pins s σ H x y v u Q I rx ry h
  obtain ⟨d, e, hd, he, ha, hn, hdep, q⟩ := h
  obtain ⟨as, r1⟩ := Dp.reads I d x v hd rx
  obtain ⟨bs, r2⟩ := Dp.reads I e y u he ry
  exact PySem.W.rcLt_alike d e X.A s v u as bs r1 r2 ha hn (by omega) X.prog X.w _ _ ⟨.bl _, H, I, rfl, q⟩
section
variable {X : Cx} {C : Cfg} {W : WX} {a b : Expr} {wa wb : DX} {pos : Pos}
def dLtP : D → D → Mem → RD → Prop := fun x y μ R => (eqOk x = true ∧ eqOk y = true) ∧ PySem.W.alike x.py y.py = true ∧ x.py ≠ .none ∧ x.py.depth ≤ 60 ∧ R (.bl (PySem.W.dataLt x.py y.py)) μ
theorem sn_ltP : SndOp C (rLtP C.K) dLtP := by
  intro x y v u α σ H Γ μ R Q r ix iy ⟨⟨o1, o2⟩, ha, hn, hdp, w⟩ k
  obtain ⟨p1, s1⟩ := eqOk_and o1
  obtain ⟨p2, s2⟩ := eqOk_and o2
  exact ⟨_, _, Is.dp _ _ (ix.mono gk_ex fun _ _ h => h) p1, Is.dp _ _ (iy.mono gk_ex fun _ _ h => h) p2, ha, hn, hdp, k _ _ _ _ _ w r Mv.refl (.bl _)⟩
theorem dt_ltP (hK : X.K = C.K) (hu : X.A.units + 65 < cLine) (ha : DE X C W a wa) (hb : DE X C W b wb) (hm : behindInMarks .Lt b = false := by rfl) : DTs X C W (.Compare a [.Lt] [b] pos) (wTest (wBin dLtP wa wb)) :=
  dt_cmp (by have h := op_ltP (X := X) hu; rw [hK] at h; exact h) sn_ltP ha hb hm
theorem de_inP (hK : X.K = C.K) (hu : X.A.units + 65 < cLine) (ha : DE X C W a wa) (hb : DE X C W b wb) (hm : behindInMarks .In b = false) : DE X C W (.Compare a [.In] [b] pos) (wBin (dInP false) wa wb) :=
  de_cmp (by have h := op_inP (X := X) hu; rw [hK] at h; exact h) sn_inP ha hb hm
end
def dSortUL : List D → Mem → RD → Prop := fun ds μ R => match ds with
  | [.lst xs] => ∃ ks : List (List Int), xs = keysD ks ∧ (∀ k ∈ ks, k ≠ []) ∧ ∀ ks' : List (List Int), ks'.Perm ks → ks'.Pairwise (fun a b => HT.lexLt b a = false) → R (.lst (keysD ks')) μ
  | _ => False
theorem sn_sortUL {C : Cfg} : SndCall C (rSortU C.K) dSortUL := by
  intro ds vs α σ H Γ μ R Q r i w k
  unfold dSortUL at w
  split at w
  · obtain ⟨v, rfl, h⟩ := iss1 i
    obtain ⟨ks, rfl, hne, w⟩ := w
    cases h with
    | lst h q =>
      obtain ⟨L, rfl, rfl, hT⟩ := rows_is q
      refine ⟨_, L, rfl, SqL.of (gk_ex _ _ h), fun p hp => ⟨(gk_ex.tupd (hT p hp)).sq, hne _ (List.mem_map.mpr ⟨p, hp, rfl⟩)⟩, fun L' p g1 g2 hp => ?_⟩
      obtain ⟨r2, m2, i2⟩ := r.lst hp (keysL_is fun q hq => hT q (g1.mem_iff.mp hq))
      exact k _ _ _ _ _ (w _ (g1.map _) (by rw [List.pairwise_map]; exact g2)) r2 m2 i2
  · exact w.elim
/-! len(d) -/
def rLenI (K : PySem.W.Frag) : List V → Hp → VK → Prop := fun xs H Q => ∃ (a : Addr) (m : List Ent), xs = [V.ref a] ∧ KD K H H a m ∧ Q (.int (m.length : Int)) H
theorem cr_lenI {X : Cx} : CallR X (.builtin "len") (rLenI X.K) := by
  intro pins s σ H xs us Q I r h
  obtain ⟨a, m, rfl, hd, q⟩ := h
  obtain ⟨u, rfl, rx⟩ := r.one
  cases rx
  obtain ⟨z, lo, dd⟩ := dict_of I hd
  exact call_len_dictH lo dd (by have := sizeLine_eq; omega) ⟨.int (m.length : Int), H, I.tok _, ⟨s.toks + 1, rfl⟩, q⟩
def dLenI : List D → Mem → RD → Prop := fun ds μ R => match ds with
  | [x] => match dtOf x μ with
    | some (ks, _) => R (.int (ks.length : Int)) μ
    | none => False
  | _ => False
theorem sn_lenI {C : Cfg} : SndCall C (rLenI C.K) dLenI := by
  intro ds vs α σ H Γ μ R Q r i w k
  unfold dLenI at w
  split at w
  · rename_i x
    obtain ⟨v, rfl, h⟩ := iss1 i
    split at w
    · rename_i ks ds e
      obtain ⟨a, m, vs, rfl, h1, h2, h3⟩ := r.dict h e
      refine ⟨a, m, rfl, ⟨h1, fun x hx => gk_ex.tupd (h2.2.1 x hx)⟩, ?_⟩
      have el : m.length = ks.length := by rw [← h2.1, List.length_map]
      rw [el]
      exact k _ _ _ _ _ w r Mv.refl (.int _)
    · exact w.elim
  · exact w.elim
end TC

set_option Elab.async false
set_option linter.all false
set_option maxRecDepth 100000
set_option maxHeartbeats 2000000
/-! Lots: what the defs are to do, at the data level. -/
namespace TC
open PySem PySem.Spec PyProof.Rows L2
def headL (r : List (List Int)) : List Int := r.headD []
def LotOk (g : List (List Int)) (a : List Int) (c : List (List Int)) : Prop := c.Perm (g.map (putL a)) ∧ c.Pairwise ltL
def LotsOk (n : Nat) (g : List (List Int)) (rows : List (List (List Int))) : Prop := (∀ r ∈ rows, ∃ a, Tn n a ∧ LotOk g a r) ∧ (∀ t, Tn n t → ∃ r ∈ rows, t ∈ r) ∧ rows.Pairwise (fun r q => ltL (headL r) (headL q)) ∧ rows.length ≤ 120
def lotD (c : List (List Int)) : D := .tup (c.map tI)
def grpAt (x : D) (n : Nat) (ok : List (List Int) → Prop) (no : Prop) : Prop := okD x = true ∧ (∀ xs, x = .tup xs → xs.length ≤ 1000 ∧ ∀ d ∈ xs, okT d = true) ∧ (¬ IsGrp n x → no) ∧ ∀ g : List (List Int), x = .tup (g.map tI) → (∀ t ∈ g, Tn n t) → GrpOk n g g → ok g
def s5_need_group (A : Adr) : SpD := fun ds R Z => ∃ x, ∃ n : Nat, ds = [x, .tup [.int n]] ∧ (2 ≤ n ∧ n ≤ 5) ∧ grpAt x n (fun _ => R (.int (n : Int))) (Z A.c_NoGroup)
def sp_lot_of (A : Adr) : SpD := fun ds R _ => ∃ (a : List Int) (g : List (List Int)) (n : Nat), ds = [tI a, .tup (g.map tI)] ∧ Tn n a ∧ (2 ≤ n ∧ n ≤ 5) ∧ (∀ t ∈ g, Tn n t) ∧ GrpOk n g g ∧ ∀ c, LotOk g a c → R (lotD c)
def sp_lot (A : Adr) : SpD := fun ds R Z => ∃ x y, ds = [x, y] ∧ okT x = true ∧ (sizeOf x = 0 → Z A.c_NoTurn) ∧ ∀ (a : List Int) (n : Nat), x = tI a → Tn n a → 2 ≤ n → n ≤ 5 → grpAt y n (fun g => ∀ c, LotOk g a c → R (lotD c)) (Z A.c_NoGroup)
def sp_lots (A : Adr) : SpD := fun ds R Z => ∃ x y, ds = [x, y] ∧ okT y = true ∧ (isSize y = false → Z A.c_NoSize) ∧ ∀ n : Nat, y = .int n → 2 ≤ n → n ≤ 5 → grpAt x n (fun g => ∀ rows, LotsOk n g rows → R (.lst (rows.map lotD))) (Z A.c_NoGroup)
def s5_law_done (A : Adr) : SpD := fun ds R Z => ∃ w x y, ds = [.str w, x, y] ∧ (x.pure = true ∧ y.pure = true) ∧ ((w = "lot" ∧ sp_lot A [x, y] R Z) ∨ (w = "lots" ∧ sp_lots A [x, y] R Z))
def zw (A : Adr) (R : D → Prop) (c : Addr) : Prop := (c = A.c_NoSize ∧ R (.str "size")) ∨ (c = A.c_NoTurn ∧ R (.str "turn")) ∨ (c = A.c_NoGroup ∧ R (.str "group"))
def s5_law_tried (A : Adr) : SpD := fun ds R _ => ∃ w x y, ds = [.str w, x, y] ∧ s5_law_done A [.str w, x, y] (fun _ => R (.str "told")) (zw A R)
def s5_law_refused (A : Adr) : SpD := fun ds R _ => ∃ (g : List (List Int)) (n : Nat), ds = [.st, .tup (g.map tI), .int n] ∧ (2 ≤ n ∧ n ≤ 5) ∧ (∀ t ∈ g, Tn n t) ∧ GrpOk n g g ∧ R (.bl true)
def idxsOf : Nat → List (List (List Int)) → List Int
  | _, [] => []
  | k, r :: rs => List.replicate r.length (k : Int) ++ idxsOf (k + 1) rs
def sp_law_places (A : Adr) : SpD := fun ds R _ => ∃ (rows : List (List (List Int))) (g : List (List Int)) (n : Nat), ds = [.lst (rows.map lotD)] ∧ (2 ≤ n ∧ n ≤ 5) ∧ (∀ t ∈ g, Tn n t) ∧ GrpOk n g g ∧ LotsOk n g rows ∧ R (.dt rows.flatten ((idxsOf 0 rows).map D.int))
def s5_law_all (A : Adr) : SpD := fun ds R _ => ∃ n : Nat, ds = [.int n] ∧ (2 ≤ n ∧ n ≤ 5) ∧ R (.int ([1, 1, 2, 6, 24, 120].getD n 0))
end TC

set_option Elab.async false
set_option linter.all false
set_option maxRecDepth 100000
set_option maxHeartbeats 4000000
/-! the conditions of the defs, at the data level -/
namespace TC
open PySem PySem.Spec PyProof.Rows L2
def w_is_number (K : PySem.W.Frag) (A : Adr) : DS := (wSeq (wRet (wAndV (wCB (dIsi K) (wCons (wVar 0) (wCons (wC (.ty "int")) wNil))) (wNotV (wCB (dIsi K) (wCons (wVar 0) (wCons (wC (.ty "bool")) wNil))))))
  wNext)
def w_size_of (K : PySem.W.Frag) (A : Adr) : DS := (wSeq (wIf (wOr (wNot (wTest (wCB (dIsi K) (wCons (wVar 0) (wCons (wC (.ty "tuple")) wNil))))) (wTest (wBin (dIn true) (wCB dLen (wCons (wVar 0) wNil)) (wC d_SIZES))))
  (wSeq (wRet (wC (.int 0)))
  wNext)
  wNext)
  (wSeq (wIf (wNot (wTest (wCB dAllL (wCons (wLc (tfN 1) (wIt (wVar 0)) wYes (wCall 1 (sp_is_number A) (wCons (wVar 1) wNil)) [1]) wNil))))
  (wSeq (wRet (wC (.int 0)))
  wNext)
  wNext)
  (wSeq (wRet (wIte (wTest (wBin dEq (wCB dSorted (wCons (wVar 0) wNil)) (wRgs fLstR (wCons (wCB dLen (wCons (wVar 0) wNil)) wNil)))) (wCB dLen (wCons (wVar 0) wNil)) (wC (.int 0))))
  wNext)))
def w_need_size (K : PySem.W.Frag) (A : Adr) : DS := (wSeq (wIf (wOr (wNot (wTest (wCall 1 (sp_is_number A) (wCons (wVar 0) wNil)))) (wTest (wBin (dIn true) (wVar 0) (wC d_SIZES))))
  (wSeq (wRaise A.c_NoSize)
  wNext)
  wNext)
  wNext)
def w_need_turn (K : PySem.W.Frag) (A : Adr) : DS := (wSeq (wAsg 1 (wCall 1 (sp_size_of A) (wCons (wVar 0) wNil)))
  (wSeq (wIf (wTest (wBin dEq (wVar 1) (wC (.int 0))))
  (wSeq (wRaise A.c_NoTurn)
  wNext)
  wNext)
  (wSeq (wRet (wVar 1))
  wNext)))
def w_put (K : PySem.W.Frag) (A : Adr) : DS := (wSeq (wRet (wCB dTupOf (wCons (wLc (tfN 2) (wIt (wVar 1)) wYes (wBin dIx (wVar 0) (wVar 2)) [2]) wNil)))
  wNext)
def w_back (K : PySem.W.Frag) (A : Adr) : DS := (wSeq (wRet (wCB dTupOf (wCons (wLc (tfN 1) (wRng1 (wCons (wCB dLen (wCons (wVar 0) wNil)) wNil)) wYes (wMethT dTIdx (wVar 0) (wCons (wVar 1) wNil)) [1]) wNil)))
  wNext)
def w_plain (K : PySem.W.Frag) (A : Adr) : DS := (wSeq (wDrop (wCall 1 (sp_need_size A) (wCons (wVar 0) wNil)))
  (wSeq (wRet (wRgs fTupR (wCons (wVar 0) wNil)))
  wNext))
def w_need_group (K : PySem.W.Frag) (A : Adr) : DS := (wSeq (wFor (tfN 2) (wIt (wVar 1))
  (wSeq (wIf (wTest (wCall 2 (sp_is_group A) (wCons (wVar 0) (wCons (wVar 2) wNil))))
  (wSeq (wRet (wVar 2))
  wNext)
  wNext)
  wNext))
  (wSeq (wRaise A.c_NoGroup)
  wNext))
def w_letters_of (K : PySem.W.Frag) (A : Adr) : DS := (wSeq (wAsg 1 wDictM)
  (wSeq (wOrS (wForEnM 2 3 (wCons (wVar 0) wNil)
  (wSeq (wDrop (wSetd (wVar 1) (wCall 1 (sp_back A) (wCons (wVar 3) wNil)) (wTup (wCons (wVar 2) (wCons (wNeg (wC (.int 1))) wNil)))))
  (wSeq (wDrop (wSetd (wVar 1) (wVar 3) (wTup (wCons (wVar 2) (wCons (wC (.int 1)) wNil)))))
  wNext)))
  (wForP 2 3 (wEnumS (wCons (wVar 0) wNil))
  (wSeq (wDrop (wSetd (wVar 1) (wCall 1 (sp_back A) (wCons (wVar 3) wNil)) (wTup (wCons (wVar 2) (wCons (wNeg (wC (.int 1))) wNil)))))
  (wSeq (wDrop (wSetd (wVar 1) (wVar 3) (wTup (wCons (wVar 2) (wCons (wC (.int 1)) wNil)))))
  wNext))))
  (wSeq (wRet (wFrzD (wVar 1)))
  wNext)))
def w_next_row (K : PySem.W.Frag) (A : Adr) : DS := (wSeq (wAsg 3 (wLstM wNil))
  (wSeq (wFor (tfN 4) (wIt (wVar 0))
  (wSeq (wForP 5 6 (wItems (wVar 2))
  (wSeq (wAsg 7 (wCall 2 (sp_put A) (wCons (wVar 4) (wCons (wVar 5) wNil))))
  (wSeq (wIf (wTest (wBin (dDIn true) (wVar 7) (wVar 1)))
  (wSeq (wSetK (wVar 1) (wVar 7) (wBin dAdd (wBin dDGet (wVar 1) (wVar 4)) (wLst (wCons (wVar 6) wNil))))
  (wSeq (wDrop (wMeth dAppend (wVar 3) (wCons (wVar 7) wNil)))
  wNext))
  wNext)
  wNext)))
  wNext))
  (wSeq (wRet (wFrz (wVar 3)))
  wNext)))
def w_words_of (K : PySem.W.Frag) (A : Adr) : DS := (wSeq (wAsg 2 (wCallM 1 (s6_letters_of A) (wCons (wVar 0) wNil)))
  (wSeq (wAsg 3 (wDisp1 (wCall 1 (sp_plain A) (wCons (wVar 1) wNil)) (wLst wNil)))
  (wSeq (wAsg 4 (wLst (wCons (wCall 1 (sp_plain A) (wCons (wVar 1) wNil)) wNil)))
  (wSeq (wWhile (wTru (wVar 4))
  (wSeq (wAsg 4 (wCallM 3 (sm_next_row A) (wCons (wVar 4) (wCons (wVar 3) (wCons (wVar 2) wNil)))))
  wNext))
  (wSeq (wRet (wFrzD (wVar 3)))
  wNext)))))
def w_few_and_all (K : PySem.W.Frag) (A : Adr) : DS := (wSeq (wAsg 2 (wLstM wNil))
  (wSeq (wAsg 3 (wTup (wCons (wCall 1 (sp_plain A) (wCons (wVar 1) wNil)) wNil)))
  (wSeq (wFor (tfN 4) (wIt (wVar 0))
  (wSeq (wIf (wTest (wBin (dInP true) (wVar 4) (wVar 3)))
  (wSeq (wDrop (wMeth dAppend (wVar 2) (wCons (wVar 4) wNil)))
  (wSeq (wAsg 3 (wCB dTupOf (wCons (wCB dSortDI (wCons (wCallM 2 (s6_words_of A) (wCons (wVar 2) (wCons (wVar 1) wNil))) wNil)) wNil)))
  wNext))
  wNext)
  wNext))
  (wSeq (wRet (wTup (wCons (wFrz (wVar 2)) (wCons (wVar 3) wNil))))
  wNext))))
def w_is_group (K : PySem.W.Frag) (A : Adr) : DS := (wSeq (wDrop (wCall 1 (sp_need_size A) (wCons (wVar 1) wNil)))
  (wSeq (wIf (wOr (wNot (wTest (wCB (dIsi K) (wCons (wVar 0) (wCons (wC (.ty "tuple")) wNil))))) (wNot (wTest (wCB dAllL (wCons (wLc (tfN 2) (wIt (wVar 0)) wYes (wBin dEq (wCall 1 (sp_size_of A) (wCons (wVar 2) wNil)) (wVar 1)) [2]) wNil)))))
  (wSeq (wRet (wC (.bl false)))
  wNext)
  wNext)
  (wSeq (wRet (wBin dEq (wBin dIx (wCall 2 (s6_few_and_all A) (wCons (wVar 0) (wCons (wVar 1) wNil))) (wC (.int 1))) (wVar 0)))
  wNext)))
def w_lot_of (K : PySem.W.Frag) (A : Adr) : DS := (wSeq (wRet (wCB dTupOf (wCons (wCB dSortUL (wCons (wLc (tfN 2) (wIt (wVar 1)) wYes (wCall 2 (sp_put A) (wCons (wVar 0) (wCons (wVar 2) wNil))) [2]) wNil)) wNil)))
  wNext)
def w_lot (K : PySem.W.Frag) (A : Adr) : DS := (wSeq (wAsg 2 (wCall 1 (sp_need_turn A) (wCons (wVar 0) wNil)))
  (wSeq (wDrop (wCall 2 (s5_need_group A) (wCons (wVar 1) (wCons (wTup (wCons (wVar 2) wNil)) wNil))))
  (wSeq (wRet (wCall 2 (sp_lot_of A) (wCons (wVar 0) (wCons (wVar 1) wNil))))
  wNext)))
def w_lots (K : PySem.W.Frag) (A : Adr) : DS := (wSeq (wDrop (wCall 1 (sp_need_size A) (wCons (wVar 1) wNil)))
  (wSeq (wDrop (wCall 2 (s5_need_group A) (wCons (wVar 0) (wCons (wTup (wCons (wVar 1) wNil)) wNil))))
  (wSeq (wAsg 2 (wLstM wNil))
  (wSeq (wAsg 3 wDictM)
  (wSeq (wForPm 4 (wCons (wVar 1) wNil)
  (wSeq (wIf (wTest (wBin (dDIn true) (wVar 4) (wVar 3)))
  (wSeq (wAsg 5 (wCall 2 (sp_lot_of A) (wCons (wVar 4) (wCons (wVar 0) wNil))))
  (wSeq (wDrop (wMeth dAppend (wVar 2) (wCons (wVar 5) wNil)))
  (wSeq (wFor (tfN 6) (wIt (wVar 5))
  (wSeq (wSetK (wVar 3) (wVar 6) (wC (.bl true)))
  wNext))
  wNext)))
  wNext)
  wNext))
  (wSeq (wRet (wFrz (wVar 2)))
  wNext))))))
def w_law_state (K : PySem.W.Frag) (A : Adr) : DS := (wSeq (wRet (wLst (wCons (wOrL (wLc (tfN 1) (wIt (wSl (wVar 0) wNoP (wPt (wC (.int 63))))) wYes (wCB dAbs (wCons (wVar 1) wNil)) [1]) (wLst (wCons (wC (.int 7)) wNil))) (wCons (wC (.int 0)) (wCons (wC (.int 1)) wNil)))))
  wNext)
def w_law_pick (K : PySem.W.Frag) (A : Adr) : DS := (wSeq (wRet (wBin dIx (wVar 1) (wCall 2 (sp_law_draw A) (wCons (wVar 0) (wCons (wCB dLen (wCons (wVar 1) wNil)) wNil)))))
  wNext)
def w_law_mixed (K : PySem.W.Frag) (A : Adr) : DS := (wSeq (wPar 2 3 (wCons (wCB dLstOfM (wCons (wVar 1) wNil)) (wCons (wLstM wNil) wNil)))
  (wSeq (wWhile (wTest (wBin dNe (wVar 2) (wLst wNil)))
  (wSeq (wDrop (wMeth dAppend (wVar 3) (wCons (wMeth dPopAt (wVar 2) (wCons (wCall 2 (sp_law_draw A) (wCons (wVar 0) (wCons (wCB dLen (wCons (wVar 2) wNil)) wNil))) wNil)) wNil)))
  wNext))
  (wSeq (wRet (wFrz (wVar 3)))
  wNext)))
def w_law_a_turn (K : PySem.W.Frag) (A : Adr) : DS := (wSeq (wAsg 2 (wCall 2 (sp_law_draw A) (wCons (wVar 0) (wCons (wC (.int 5)) wNil))))
  (wSeq (wIf (wTest (wBin dEq (wVar 2) (wC (.int 0))))
  (wSeq (wRet (wRgs fTupR (wCons (wVar 1) wNil)))
  wNext)
  wNext)
  (wSeq (wIf (wTest (wBin dEq (wVar 2) (wC (.int 1))))
  (wSeq (wAsg 3 (wCall 2 (sp_law_draw A) (wCons (wVar 0) (wCons (wBin dSub (wVar 1) (wC (.int 1))) wNil))))
  (wSeq (wRet (wBin dAdd (wBin dAdd (wRgs fTupR (wCons (wVar 3) wNil)) (wTup (wCons (wBin dAdd (wVar 3) (wC (.int 1))) (wCons (wVar 3) wNil)))) (wRgs fTupR (wCons (wBin dAdd (wVar 3) (wC (.int 2))) (wCons (wVar 1) wNil)))))
  wNext))
  wNext)
  (wSeq (wRet (wCB dTupOf (wCons (wCall 2 (sx_law_mixed A) (wCons (wVar 0) (wCons (wRgs fLstR (wCons (wVar 1) wNil)) wNil))) wNil)))
  wNext))))
def w_law_into (K : PySem.W.Frag) (A : Adr) : DS := (wSeq (wRet (wCB dTupOf (wCons (wLc (tfN 2) (wIt (wVar 1)) wYes (wBin dIx (wVar 0) (wVar 2)) [2]) wNil)))
  wNext)
def w_law_undone (K : PySem.W.Frag) (A : Adr) : DS := (wSeq (wRet (wCB dTupOf (wCons (wLc (tfN 1) (wRng1 (wCons (wCB dLen (wCons (wVar 0) wNil)) wNil)) wYes (wMethT dTIdx (wVar 0) (wCons (wVar 1) wNil)) [1]) wNil)))
  wNext)
def w_law_closed (K : PySem.W.Frag) (A : Adr) : DS := (wSeq (wPar 2 3 (wCons (wDisp1 (wRgs fTupR (wCons (wVar 1) wNil)) (wC (.int 0))) (wCons (wLst (wCons (wRgs fTupR (wCons (wVar 1) wNil)) wNil)) wNil)))
  (wSeq (wWhile (wTest (wBin dNe (wVar 3) (wLst wNil)))
  (wSeq (wAsg 4 (wLstM wNil))
  (wSeq (wFor (tfN 5) (wIt (wVar 3))
  (wSeq (wOrS (wForM 6 (wVar 0)
  (wSeq (wAsg 7 (wCall 2 (sp_law_into A) (wCons (wVar 5) (wCons (wVar 6) wNil))))
  (wSeq (wIf (wTest (wBin (dDIn true) (wVar 7) (wVar 2)))
  (wSeq (wSetK (wVar 2) (wVar 7) (wC (.int 0)))
  (wSeq (wDrop (wMeth dAppend (wVar 4) (wCons (wVar 7) wNil)))
  wNext))
  wNext)
  wNext)))
  (wFor (tfN 6) (wIt (wVar 0))
  (wSeq (wAsg 7 (wCall 2 (sp_law_into A) (wCons (wVar 5) (wCons (wVar 6) wNil))))
  (wSeq (wIf (wTest (wBin (dDIn true) (wVar 7) (wVar 2)))
  (wSeq (wSetK (wVar 2) (wVar 7) (wC (.int 0)))
  (wSeq (wDrop (wMeth dAppend (wVar 4) (wCons (wVar 7) wNil)))
  wNext))
  wNext)
  wNext))))
  wNext))
  (wSeq (wAsg 3 (wFrz (wVar 4)))
  wNext))))
  (wSeq (wRet (wCB dTupOf (wCons (wCB dSortDI (wCons (wVar 2) wNil)) wNil)))
  wNext)))
def w_law_all (K : PySem.W.Frag) (A : Adr) : DS := (wSeq (wRet (wBin dIx (wLst (wCons (wC (.int 1)) (wCons (wC (.int 1)) (wCons (wC (.int 2)) (wCons (wC (.int 6)) (wCons (wC (.int 24)) (wCons (wC (.int 120)) wNil))))))) (wVar 0)))
  wNext)
def w_law_done (K : PySem.W.Frag) (A : Adr) : DS := (wSeq (wRet (wIte (wTest (wBin dEq (wVar 0) (wC (.str "lot")))) (wCall 2 (sp_lot A) (wCons (wVar 1) (wCons (wVar 2) wNil))) (wCall 2 (sp_lots A) (wCons (wVar 1) (wCons (wVar 2) wNil)))))
  wNext)
def w_law_tried (K : PySem.W.Frag) (A : Adr) : DS := (wSeq (wAsg 3 (wC .non))
  (wSeq (wTry K (.ref A.c_CoatError) 4 3
  (wSeq (wDrop (wCall 3 (s5_law_done A) (wCons (wVar 0) (wCons (wVar 1) (wCons (wVar 2) wNil)))))
  wNext))
  (wSeq (wIf (wTest (wIsN false (wVar 3)))
  (wSeq (wRet (wC (.str "told")))
  wNext)
  wNext)
  (wSeq (wAsg 5 (wLst (wCons (wCB (dIsi K) (wCons (wVar 3) (wCons (wC (.own A.c_NoSize)) wNil))) (wCons (wCB (dIsi K) (wCons (wVar 3) (wCons (wC (.own A.c_NoTurn)) wNil))) (wCons (wCB (dIsi K) (wCons (wVar 3) (wCons (wC (.own A.c_NoGroup)) wNil))) wNil)))))
  (wSeq (wIf (wOr (wTest (wBin dNe (wMeth dCountL (wVar 5) (wCons (wC (.bl true)) wNil)) (wC (.int 1)))) (wNot (wTest (wCB (dIsi K) (wCons (wVar 3) (wCons (wC (.ty "ValueError")) wNil))))))
  (wSeq (wRet (wC (.str "other")))
  wNext)
  wNext)
  (wSeq (wRet (wBin dIx (wLst (wCons (wC (.str "size")) (wCons (wC (.str "turn")) (wCons (wC (.str "group")) wNil)))) (wMeth dIndex (wVar 5) (wCons (wC (.bl true)) wNil))))
  wNext))))))
def w_law_refused (K : PySem.W.Frag) (A : Adr) : DS := (wSeq (wAsg 3 (wCall 2 (s6_law_pick A) (wCons (wVar 0) (wCons (wLst (wCons (wC .non) (wCons (wTup wNil) (wCons (wTup (wCons (wC (.int 0)) wNil)) (wCons (wLst (wCons (wC (.int 1)) (wCons (wC (.int 0)) wNil))) (wCons (wTup (wCons (wC (.int 0)) (wCons (wC (.int 2)) wNil))) (wCons (wC (.str "10")) (wCons (wC (.int 7)) (wCons (wTup (wCons (wC (.bl true)) (wCons (wC (.bl false)) wNil))) (wCons wDict0 wNil)))))))))) wNil))))
  (wSeq (wAsg 4 (wCall 2 (s6_law_pick A) (wCons (wVar 0) (wCons (wLst (wCons (wC (.int 0)) (wCons (wC (.int 1)) (wCons (wC (.int 6)) (wCons (wNeg (wC (.int 3))) (wCons (wC .non) (wCons (wC (.bl true)) (wCons (wC (.str "3")) (wCons (wTup (wCons (wC (.int 3)) wNil)) wNil))))))))) wNil))))
  (wSeq (wAsg 5 (wCall 2 (s6_law_pick A) (wCons (wVar 0) (wCons (wLst (wCons (wCB dLstOf (wCons (wVar 1) wNil)) (wCons (wSl (wVar 1) (wPt (wC (.int 1))) wNoP) (wCons (wBin dAdd (wRev (wVar 1)) (wVar 1)) (wCons (wTup wNil) (wCons (wC .non) (wCons (wC (.int 5)) (wCons (wBin dIx (wVar 1) (wC (.int 0))) (wCons (wBin dAdd (wVar 1) (wSl (wVar 1) wNoP (wPt (wC (.int 1))))) wNil))))))))) wNil))))
  (wSeq (wAsg 6 (wBin dAdd (wC (.int 2)) (wBin dMod (wBin dAdd (wBin dSub (wVar 2) (wC (.int 1))) (wCall 2 (sp_law_draw A) (wCons (wVar 0) (wCons (wC (.int 3)) wNil)))) (wC (.int 4)))))
  (wSeq (wAsg 7 (wCallM 2 (s6_law_closed A) (wCons (wLst (wCons (wCall 2 (sp_law_a_turn A) (wCons (wVar 0) (wCons (wVar 6) wNil))) wNil)) (wCons (wVar 6) wNil))))
  (wSeq (wIf (wOr (wTest (wBin dNe (wCall 3 (s5_law_tried A) (wCons (wC (.str "lot")) (wCons (wVar 3) (wCons (wVar 5) wNil)))) (wC (.str "turn")))) (wTest (wBin dNe (wCall 3 (s5_law_tried A) (wCons (wC (.str "lot")) (wCons (wBin dIx (wVar 1) (wNeg (wC (.int 1)))) (wCons (wVar 5) wNil)))) (wC (.str "group")))))
  (wSeq (wRet (wC (.bl false)))
  wNext)
  wNext)
  (wSeq (wIf (wOr (wTest (wBin dNe (wCall 3 (s5_law_tried A) (wCons (wC (.str "lot")) (wCons (wBin dIx (wVar 1) (wNeg (wC (.int 1)))) (wCons (wVar 7) wNil)))) (wC (.str "group")))) (wTest (wBin dNe (wCall 3 (s5_law_tried A) (wCons (wC (.str "lots")) (wCons (wVar 7) (wCons (wVar 2) wNil)))) (wC (.str "group")))))
  (wSeq (wRet (wC (.bl false)))
  wNext)
  wNext)
  (wSeq (wRet (wAndV (wBin dEq (wCall 3 (s5_law_tried A) (wCons (wC (.str "lots")) (wCons (wVar 5) (wCons (wVar 4) wNil)))) (wC (.str "size"))) (wBin dEq (wCall 3 (s5_law_tried A) (wCons (wC (.str "lots")) (wCons (wVar 5) (wCons (wVar 2) wNil)))) (wC (.str "group")))))
  wNext))))))))
def w_law_places (K : PySem.W.Frag) (A : Adr) : DS := (wSeq (wAsg 1 wDictM)
  (wSeq (wForP 2 3 (wEnumS (wCons (wVar 0) wNil))
  (wSeq (wIf (wOr (wNot (wTest (wCB (dIsi K) (wCons (wVar 3) (wCons (wC (.ty "tuple")) wNil))))) (wOr (wTest (wBin dNe (wVar 3) (wCB dTupOf (wCons (wCB dSortUT (wCons (wVar 3) wNil)) wNil)))) (wAnd (wTest (wBin dGt (wVar 2) (wC (.int 0)))) (wNot (wTest (wBin dLtP (wBin dIx (wVar 0) (wBin dSub (wVar 2) (wC (.int 1)))) (wVar 3)))))))
  (wSeq (wRet (wC .non))
  wNext)
  wNext)
  (wSeq (wFor (tfN 4) (wIt (wVar 3))
  (wSeq (wIf (wTest (wBin (dDIn false) (wVar 4) (wVar 1)))
  (wSeq (wRet (wC .non))
  wNext)
  wNext)
  (wSeq (wSetK (wVar 1) (wVar 4) (wVar 2))
  wNext)))
  wNext)))
  (wSeq (wRet (wFrzD (wVar 1)))
  wNext)))
def w_law (K : PySem.W.Frag) (A : Adr) : DS := (wSeq (wFor (tfN 2) (wRng1 (wCons (wC (.int 2)) wNil))
  (wSeq (wAsg 3 (wBin dAdd (wC (.int 2)) (wCall 2 (sp_law_draw A) (wCons (wVar 1) (wCons (wC (.int 4)) wNil)))))
  (wSeq (wAsg 4 (wCallM 2 (s6_law_closed A) (wCons (wLc (tfN 7) (wRng1 (wCons (wCall 2 (sp_law_draw A) (wCons (wVar 1) (wCons (wC (.int 3)) wNil))) wNil)) wYes (wCall 2 (sp_law_a_turn A) (wCons (wVar 1) (wCons (wVar 3) wNil))) [7]) (wCons (wVar 3) wNil))))
  (wSeq (wAsg 5 (wCall 2 (sp_lots A) (wCons (wVar 4) (wCons (wVar 3) wNil))))
  (wSeq (wIf (wOr (wNot (wTest (wCB (dIsi K) (wCons (wVar 5) (wCons (wC (.ty "list")) wNil))))) (wNot (wTest (wCall 3 (s5_law_refused A) (wCons (wVar 1) (wCons (wVar 4) (wCons (wVar 3) wNil)))))))
  (wSeq (wRet (wC (.bl false)))
  wNext)
  wNext)
  (wSeq (wAsg 6 (wCall 1 (sp_law_places A) (wCons (wVar 5) wNil)))
  (wSeq (wIf (wOr (wTest (wIsN false (wVar 6))) (wOr (wTest (wBin dNe (wCB dLenI (wCons (wVar 6) wNil)) (wCall 1 (s5_law_all A) (wCons (wVar 3) wNil)))) (wTest (wBin dNe (wLc (tfN 11) (wIt (wVar 5)) (wTest (wBin dNe (wCB dLen (wCons (wVar 11) wNil)) (wCB dLen (wCons (wVar 4) wNil)))) (wVar 11) [11]) (wLst wNil)))))
  (wSeq (wRet (wC (.bl false)))
  wNext)
  wNext)
  (wSeq (wFor (tfN 7) (wRng1 (wCons (wIte (wTest (wBin dLt (wCB dLen (wCons (wVar 4) wNil)) (wC (.int 25)))) (wC (.int 12)) (wC (.int 1))) wNil))
  (wSeq (wPar 9 10 (wCons (wCB dTupOf (wCons (wCall 2 (sx_law_mixed A) (wCons (wVar 1) (wCons (wRgs fLstR (wCons (wVar 3) wNil)) wNil))) wNil)) (wCons (wCB dTupOf (wCons (wCall 2 (sx_law_mixed A) (wCons (wVar 1) (wCons (wRgs fLstR (wCons (wVar 3) wNil)) wNil))) wNil)) wNil)))
  (wSeq (wIf (wOr (wTest (wBin (dDIn true) (wVar 9) (wVar 6))) (wOr (wTest (wBin (dDIn true) (wVar 10) (wVar 6))) (wTest (wBin dNe (wCall 2 (sp_lot A) (wCons (wVar 9) (wCons (wVar 4) wNil))) (wBin dIx (wVar 5) (wBin dDGet (wVar 6) (wVar 9)))))))
  (wSeq (wRet (wC (.bl false)))
  wNext)
  wNext)
  (wSeq (wIf (wTest (wBin dNe (wBin dEq (wBin dDGet (wVar 6) (wVar 9)) (wBin dDGet (wVar 6) (wVar 10))) (wBin (dInP false) (wCall 2 (sp_law_into A) (wCons (wCall 1 (sp_law_undone A) (wCons (wVar 9) wNil)) (wCons (wVar 10) wNil))) (wVar 4))))
  (wSeq (wRet (wC (.bl false)))
  wNext)
  wNext)
  (wSeq (wFor (tfN 8) (wIt (wSl (wVar 4) wNoP (wPt (wC (.int 30)))))
  (wSeq (wIf (wTest (wBin dNe (wBin dDGet (wVar 6) (wCall 2 (sp_law_into A) (wCons (wVar 9) (wCons (wVar 8) wNil)))) (wBin dDGet (wVar 6) (wVar 9))))
  (wSeq (wRet (wC (.bl false)))
  wNext)
  wNext)
  wNext))
  wNext)))))
  wNext))))))))
  (wSeq (wRet (wC (.bl true)))
  wNext))
end TC

set_option Elab.async false
set_option linter.all false
set_option maxRecDepth 100000
set_option maxHeartbeats 2000000
/-! The data-level conditions hold. -/
namespace TC
open PySem PySem.Spec PyProof.Rows L2
abbrev Pt (R : D → Prop) (Z : Addr → Prop) : Post := ⟨fun _ _ => R .non, fun d _ => d.pure = true ∧ R d, fun _ _ => False, fun _ _ => False, fun cl _ _ => Z cl⟩
theorem pures_all : ∀ ds : List D, pures ds = ds.all D.pure
  | [] => rfl
  | d :: ds => by
    show (d.pure && pures ds) = (d.pure && ds.all D.pure)
    rw [pures_all ds]
theorem pures_of {ds : List D} (h : ∀ d ∈ ds, d.pure = true) : pures ds = true := by
  rw [pures_all, List.all_eq_true]
  exact h
theorem pures_mem {ds : List D} (h : pures ds = true) : ∀ d ∈ ds, d.pure = true := by
  rw [pures_all, List.all_eq_true] at h
  exact h
theorem pures_ints (ns : List Int) : pures (ns.map D.int) = true := pures_of fun d h => by
  obtain ⟨n, _, rfl⟩ := List.mem_map.mp h
  rfl
theorem pure_tI (ns : List Int) : (tI ns).pure = true := pures_ints ns
theorem wLcL_ok {j : Nat} {wt : DT} {we : DX} {Γ : Gam} {μ : Mem} {R : List D → Mem → Prop} (g : D → D) (c : D → Bool) : ∀ (ds acc : List D),
    (∀ x ∈ ds, ∀ μ' (Q : Bool → Mem → Prop), Q (c x) μ' → wt (Γ.set j (some x)) μ' Q Z0) → (∀ x ∈ ds, c x = true → (g x).pure = true ∧ ∀ μ' (Q : RD), Q (g x) μ' → we (Γ.set j (some x)) μ' Q Z0) →
    R (acc ++ (ds.filter c).map g) μ → wLcL (tfN j) wt we ds acc Γ μ R
  | [], acc, _, _, r => by
    simp only [List.filter_nil, List.map_nil, List.append_nil] at r
    exact r
  | x :: xs, acc, ht, he, r => by
    show wt (Γ.set j (some x)) (μ ++ [Cell.lst acc]) _ Z0
    refine ht x (List.mem_cons_self ..) _ _ ⟨rfl, ?_⟩
    have ht' := fun y (h : y ∈ xs) => ht y (List.mem_cons_of_mem _ h)
    have he' := fun y (h : y ∈ xs) => he y (List.mem_cons_of_mem _ h)
    cases hc : c x with
    | false =>
      rw [if_neg (by decide)]
      refine wLcL_ok g c xs acc ht' he' ?_
      rw [List.filter_cons_of_neg (by rw [hc]; decide)] at r
      exact r
    | true =>
      rw [if_pos rfl]
      obtain ⟨p, h⟩ := he x (List.mem_cons_self ..) hc
      refine h _ _ ⟨rfl, p, wLcL_ok g c xs (acc ++ [g x]) ht' he' ?_⟩
      rw [List.filter_cons_of_pos hc, List.map_cons] at r
      rw [List.append_assoc]
      exact r
theorem wLcL_map {j : Nat} {we : DX} {Γ : Gam} {μ : Mem} {R : List D → Mem → Prop} (g : D → D) (ds : List D)
    (he : ∀ x ∈ ds, (g x).pure = true ∧ ∀ μ' (Q : RD), Q (g x) μ' → we (Γ.set j (some x)) μ' Q Z0) (r : R (ds.map g) μ) : wLcL (tfN j) wYes we ds [] Γ μ R :=
  wLcL_ok g (fun _ => true) ds [] (fun x _ μ' Q h => h) (fun x h _ => he x h) (by
    rw [List.filter_eq_self.mpr (fun _ _ => rfl)]
    exact r)
theorem wLcL_filter {j : Nat} {wt : DT} {we : DX} {Γ : Gam} {μ : Mem} {R : List D → Mem → Prop} (c : D → Bool) (ds : List D)
    (ht : ∀ x ∈ ds, ∀ μ' (Q : Bool → Mem → Prop), Q (c x) μ' → wt (Γ.set j (some x)) μ' Q Z0) (he : ∀ x ∈ ds, c x = true → x.pure = true ∧ ∀ μ' (Q : RD), Q x μ' → we (Γ.set j (some x)) μ' Q Z0) (r : R (ds.filter c) μ) : wLcL (tfN j) wt we ds [] Γ μ R :=
  wLcL_ok id c ds [] ht (fun x h hc => he x h hc) (by
    rw [List.map_id]
    exact r)
theorem okD_pure {x : D} (h : okD x = true) : x.pure = true := by
  unfold okD at h
  rw [Bool.and_eq_true] at h
  exact h.2
theorem okT_D {x : D} (h : okT x = true) : okD x = true := by
  unfold okT at h
  rw [Bool.and_eq_true] at h
  exact h.1
theorem okT_pure {x : D} (h : okT x = true) : x.pure = true := okD_pure (okT_D h)
theorem okT_tup {ds : List D} (h : okT (.tup ds) = true) : (∀ d ∈ ds, okD d = true) ∧ ds.length ≤ 1000 := by
  unfold okT at h
  rw [Bool.and_eq_true] at h
  have h := h.2
  rw [Bool.and_eq_true, List.all_eq_true] at h
  exact ⟨h.1, of_decide_eq_true h.2⟩

theorem pure_is_number (K : PySem.W.Frag) (A : Adr) (ds : List D) (R : D → Prop) (Z : Addr → Prop) (hl : ds.length = 1) (h : sp_is_number A ds R Z) : w_is_number K A (gam0 1 ds) [] (Pt R Z) := by
  obtain ⟨x, rfl, ok, r⟩ := h
  cases x <;> first | (cases ok; done) | skip
  all_goals simp only [w_is_number, wSeq, wNext, wRet, wDrop, wAsg, wPar, wIf, wBrk, wCnt, wRaise, wIte, wAndV, wOrV, wNotV, wNeg, wAnd, wOr, wNot, wTest, wCB, wCons, wNil, wVar, wC, wBin, wTup, wLst, wLstM, wFrz, wIsN, wOrL, wDict0, wIt, wRng1, wRng2, wMeth, wMethT, wNoP, wPt, wSl, wRev, wRgs, fTupR, fLstR, fLstRM, rgM, wCall, wYes, bOf, gam0, List.map_cons, List.map_nil, List.length_cons, List.length_nil, List.replicate, List.cons_append, List.nil_append, List.append_nil, List.getElem?_cons_zero, List.getElem?_cons_succ, List.set_cons_zero, List.set_cons_succ, Nat.add_sub_cancel, Nat.sub_self, Nat.sub_zero, Nat.reduceAdd, Nat.reduceSub, Nat.zero_add, if_true, if_false, Bool.false_eq_true, Bool.not_true, Bool.not_false, true_and, and_true, pures, D.pure, Bool.and_true, Bool.true_and]
  all_goals simp [dIsi, res, tyN, isi]
  all_goals exact r
theorem pure_size_of (K : PySem.W.Frag) (A : Adr) (ds : List D) (R : D → Prop) (Z : Addr → Prop) (hl : ds.length = 1) (h : sp_size_of A ds R Z) : w_size_of K A (gam0 2 ds) [] (Pt R Z) := by
  obtain ⟨x, rfl, ok, r⟩ := h
  cases x with
  | tup ds =>
    obtain ⟨ok1, ok2⟩ := okT_tup ok
    have e1 := in_sizes (ds.length : Int)
    have e2 : (([.int 2, .int 3, .int 4, .int 5] : List D).all flatD) = true := rfl
    simp only [w_size_of, wSeq, wNext, wRet, wDrop, wAsg, wPar, wIf, wBrk, wCnt, wRaise, wIte, wAndV, wOrV, wNotV, wNeg, wAnd, wOr, wNot, wTest, wCB, wCons, wNil, wVar, wC, wBin, wTup, wLst, wLstM, wFrz, wIsN, wOrL, wDict0, wIt, wRng1, wRng2, wMeth, wMethT, wNoP, wPt, wSl, wRev, wRgs, fTupR, fLstR, fLstRM, rgM, wCall, wYes, bOf, gam0, List.map_cons, List.map_nil, List.length_cons, List.length_nil, List.replicate, List.cons_append, List.nil_append, List.append_nil, List.getElem?_cons_zero, List.getElem?_cons_succ, List.set_cons_zero, List.set_cons_succ, Nat.add_sub_cancel, Nat.sub_self, Nat.sub_zero, Nat.reduceAdd, Nat.reduceSub, Nat.zero_add, if_true, if_false, Bool.false_eq_true, Bool.not_true, Bool.not_false, true_and, and_true, pures, D.pure, Bool.and_true, Bool.true_and, dIsi, res, tyN, isi, dLen, items, dIn, d_SIZES, e1, e2]
    simp only [flatD, List.contains_cons, beq_self_eq_true, Bool.or_true, Bool.true_or, and_self, true_and]
    rw [if_neg (by decide)]
    have small : ¬ (2 ≤ (ds.length : Int) ∧ (ds.length : Int) ≤ 5) → sizeOf (.tup ds) = 0 := fun hs => by
      by_cases h0 : sizeOf (.tup ds) = 0
      · exact h0
      · obtain ⟨ns, e, ht, _⟩ := sizeOf_turn h0
        cases e
        have := (tOk_iff.mp ht).1
        rw [List.length_map] at hs
        exact absurd (by omega) hs
    by_cases hs : 2 ≤ (ds.length : Int) ∧ (ds.length : Int) ≤ 5
    · rw [decide_eq_true hs, if_neg (by decide)]
      simp only [wLc, wipeG, itemsI, wSeq, wNext, wRet, wDrop, wAsg, wPar, wIf, wBrk, wCnt, wRaise, wIte, wAndV, wOrV, wNotV, wNeg, wAnd, wOr, wNot, wTest, wCB, wCons, wNil, wVar, wC, wBin, wTup, wLst, wLstM, wFrz, wIsN, wOrL, wDict0, wIt, wRng1, wRng2, wMeth, wMethT, wNoP, wPt, wSl, wRev, wRgs, fTupR, fLstR, fLstRM, rgM, wCall, wYes, bOf, gam0, List.map_cons, List.map_nil, List.length_cons, List.length_nil, List.replicate, List.cons_append, List.nil_append, List.append_nil, List.getElem?_cons_zero, List.getElem?_cons_succ, List.set_cons_zero, List.set_cons_succ, Nat.add_sub_cancel, Nat.sub_self, Nat.sub_zero, Nat.reduceAdd, Nat.reduceSub, Nat.zero_add, if_true, if_false, Bool.false_eq_true, Bool.not_true, Bool.not_false, true_and, and_true, pures, D.pure, Bool.and_true, Bool.true_and]
      refine ⟨by unfold big; omega, wLcL_map (fun d => .bl (isNum d)) ds (fun x hx => ⟨rfl, fun μ' Q q => ?_⟩) ?_⟩
      · simp only [wSeq, wNext, wRet, wDrop, wAsg, wPar, wIf, wBrk, wCnt, wRaise, wIte, wAndV, wOrV, wNotV, wNeg, wAnd, wOr, wNot, wTest, wCB, wCons, wNil, wVar, wC, wBin, wTup, wLst, wLstM, wFrz, wIsN, wOrL, wDict0, wIt, wRng1, wRng2, wMeth, wMethT, wNoP, wPt, wSl, wRev, wRgs, fTupR, fLstR, fLstRM, rgM, wCall, wYes, bOf, gam0, List.map_cons, List.map_nil, List.length_cons, List.length_nil, List.replicate, List.cons_append, List.nil_append, List.append_nil, List.getElem?_cons_zero, List.getElem?_cons_succ, List.set_cons_zero, List.set_cons_succ, Nat.add_sub_cancel, Nat.sub_self, Nat.sub_zero, Nat.reduceAdd, Nat.reduceSub, Nat.zero_add, if_true, if_false, Bool.false_eq_true, Bool.not_true, Bool.not_false, true_and, and_true, pures, D.pure, Bool.and_true, Bool.true_and]
        exact ⟨okD_pure (ok1 x hx), x, rfl, ok1 x hx, q⟩
      · refine ⟨⟨ds.map isNum, by rw [List.map_map]; rfl, ?_⟩, fun ys e => by cases e⟩
        cases q : nums ds with
        | none =>
          rw [nums_none q]
          have e0 : sizeOf (.tup ds) = 0 := by
            show (match nums ds with | some ns => if tOk ns = true then ns.length else 0 | none => 0) = 0
            rw [q]
          rw [e0] at r
          exact r
        | some ns =>
          have e := nums_some q
          subst e
          rw [isNum_ints]
          rw [List.length_map] at hs ⊢
          have r : R (.int (sizeOf (tI ns) : Nat)) := r
          rw [sizeOf_tI] at r
          refine ⟨ns, rfl, by omega, fun ns' hp hsrt => ⟨by unfold rgOk; omega, ?_⟩⟩
          rw [rgD_rgL]
          refine ⟨⟨eqOk_lI _, eqOk_lI _⟩, ?_⟩
          show if deq (.lst (ns'.map D.int)) (.lst ((rgL ns.length).map D.int)) = true then _ else _
          rw [deq_lI, sorted_rg hp hsrt (by omega) (by omega)]
          by_cases ht : tOk ns = true
          · rw [if_pos ht]
            rw [if_pos ht] at r
            exact r
          · rw [if_neg ht]
            rw [if_neg ht] at r
            exact r
    · rw [decide_eq_false hs, if_pos (by decide)]
      rw [small hs] at r
      exact r
  | _ =>
    first | (cases ok; done) | skip
    all_goals simp only [w_size_of, wSeq, wNext, wRet, wDrop, wAsg, wPar, wIf, wBrk, wCnt, wRaise, wIte, wAndV, wOrV, wNotV, wNeg, wAnd, wOr, wNot, wTest, wCB, wCons, wNil, wVar, wC, wBin, wTup, wLst, wLstM, wFrz, wIsN, wOrL, wDict0, wIt, wRng1, wRng2, wMeth, wMethT, wNoP, wPt, wSl, wRev, wRgs, fTupR, fLstR, fLstRM, rgM, wCall, wYes, bOf, gam0, List.map_cons, List.map_nil, List.length_cons, List.length_nil, List.replicate, List.cons_append, List.nil_append, List.append_nil, List.getElem?_cons_zero, List.getElem?_cons_succ, List.set_cons_zero, List.set_cons_succ, Nat.add_sub_cancel, Nat.sub_self, Nat.sub_zero, Nat.reduceAdd, Nat.reduceSub, Nat.zero_add, if_true, if_false, Bool.false_eq_true, Bool.not_true, Bool.not_false, true_and, and_true, pures, D.pure, Bool.and_true, Bool.true_and]
    all_goals simp [dIsi, res, tyN, isi]
    all_goals exact r
theorem isSize_num {x : D} (h : isSize x = true) : ∃ n : Nat, x = .int n ∧ 2 ≤ n ∧ n ≤ 5 := by
  cases x with
  | int n =>
    have h := of_decide_eq_true h
    exact ⟨n.toNat, by rw [Int.toNat_of_nonneg (by omega)], by omega, by omega⟩
  | _ => cases h
theorem isSize_no {n : Int} (h : isSize (.int n) = false) : ¬ (2 ≤ n ∧ n ≤ 5) := of_decide_eq_false h
theorem pure_need_size (K : PySem.W.Frag) (A : Adr) (ds : List D) (R : D → Prop) (Z : Addr → Prop) (hl : ds.length = 1) (h : sp_need_size A ds R Z) : w_need_size K A (gam0 1 ds) [] (Pt R Z) := by
  obtain ⟨x, rfl, ok, r, z⟩ := h
  simp only [w_need_size, wSeq, wNext, wRet, wDrop, wAsg, wPar, wIf, wBrk, wCnt, wRaise, wIte, wAndV, wOrV, wNotV, wNeg, wAnd, wOr, wNot, wTest, wCB, wCons, wNil, wVar, wC, wBin, wTup, wLst, wLstM, wFrz, wIsN, wOrL, wDict0, wIt, wRng1, wRng2, wMeth, wMethT, wNoP, wPt, wSl, wRev, wRgs, fTupR, fLstR, fLstRM, rgM, wCall, wYes, bOf, gam0, List.map_cons, List.map_nil, List.length_cons, List.length_nil, List.replicate, List.cons_append, List.nil_append, List.append_nil, List.getElem?_cons_zero, List.getElem?_cons_succ, List.set_cons_zero, List.set_cons_succ, Nat.add_sub_cancel, Nat.sub_self, Nat.sub_zero, Nat.reduceAdd, Nat.reduceSub, Nat.zero_add, if_true, if_false, Bool.false_eq_true, Bool.not_true, Bool.not_false, true_and, and_true, pures, D.pure, Bool.and_true, Bool.true_and]
  refine ⟨okT_pure ok, x, rfl, okT_D ok, ?_⟩
  cases x with
  | int n =>
    have e1 := in_sizes n
    have e2 : (([.int 2, .int 3, .int 4, .int 5] : List D).all flatD) = true := rfl
    show if (!true) = true then _ else _
    rw [if_neg (by decide)]
    refine ⟨⟨rfl, rfl⟩, ?_⟩
    show if (!(([.int 2, .int 3, .int 4, .int 5] : List D).any fun z => deq z (.int n))) = true then _ else _
    rw [e1]
    by_cases hs : 2 ≤ n ∧ n ≤ 5
    · rw [decide_eq_true hs, if_neg (by decide)]
      exact r (decide_eq_true hs)
    · rw [decide_eq_false hs, if_pos (by decide)]
      exact z (decide_eq_false hs)
  | _ => exact z rfl
theorem pure_need_turn (K : PySem.W.Frag) (A : Adr) (ds : List D) (R : D → Prop) (Z : Addr → Prop) (hl : ds.length = 1) (h : sp_need_turn A ds R Z) : w_need_turn K A (gam0 2 ds) [] (Pt R Z) := by
  obtain ⟨x, rfl, ok, r, z⟩ := h
  simp only [w_need_turn, wSeq, wNext, wRet, wDrop, wAsg, wPar, wIf, wBrk, wCnt, wRaise, wIte, wAndV, wOrV, wNotV, wNeg, wAnd, wOr, wNot, wTest, wCB, wCons, wNil, wVar, wC, wBin, wTup, wLst, wLstM, wFrz, wIsN, wOrL, wDict0, wIt, wRng1, wRng2, wMeth, wMethT, wNoP, wPt, wSl, wRev, wRgs, fTupR, fLstR, fLstRM, rgM, wCall, wYes, bOf, gam0, List.map_cons, List.map_nil, List.length_cons, List.length_nil, List.replicate, List.cons_append, List.nil_append, List.append_nil, List.getElem?_cons_zero, List.getElem?_cons_succ, List.set_cons_zero, List.set_cons_succ, Nat.add_sub_cancel, Nat.sub_self, Nat.sub_zero, Nat.reduceAdd, Nat.reduceSub, Nat.zero_add, if_true, if_false, Bool.false_eq_true, Bool.not_true, Bool.not_false, true_and, and_true, pures, D.pure, Bool.and_true, Bool.true_and]
  refine ⟨okT_pure ok, x, rfl, ok, ?_⟩
  refine ⟨⟨eqOk_int _, eqOk_int _⟩, ?_⟩
  show if deq (.int _) (.int 0) = true then _ else _
  rw [deq_int]
  by_cases hs : sizeOf x = 0
  · rw [decide_eq_true (by omega), if_pos rfl]
    exact z hs
  · rw [decide_eq_false (by omega), if_neg (by decide)]
    exact ⟨rfl, r hs⟩
theorem atI_in {ds : List D} {i : Int} {d : D} (h0 : 0 ≤ i) (h : ds[i.toNat]? = some d) : atI ds i = some d := by
  have hl : i.toNat < ds.length := by
    rcases Nat.lt_or_ge i.toNat ds.length with h' | h'
    · exact h'
    · rw [List.getElem?_eq_none h'] at h
      cases h
  unfold atI ixN
  rw [if_pos h0, if_pos (by omega)]
  exact h
theorem getD_map {a : List Int} {k : Int} (h0 : 0 ≤ k) (h1 : k < a.length) : (a.map D.int)[k.toNat]? = some (.int (a.getD k.toNat 0)) := by
  have hl : k.toNat < a.length := by omega
  rw [List.getElem?_map, List.getD_eq_getElem?_getD, List.getElem?_eq_getElem hl]
  rfl
theorem pure_put (K : PySem.W.Frag) (A : Adr) (ds : List D) (R : D → Prop) (Z : Addr → Prop) (hl : ds.length = 2) (h : sp_put A ds R Z) : w_put K A (gam0 3 ds) [] (Pt R Z) := by
  obtain ⟨a, b, rfl, hb, hb1, r⟩ := h
  simp only [w_put, tI, wLc, wipeG, itemsI, wSeq, wNext, wRet, wDrop, wAsg, wPar, wIf, wBrk, wCnt, wRaise, wIte, wAndV, wOrV, wNotV, wNeg, wAnd, wOr, wNot, wTest, wCB, wCons, wNil, wVar, wC, wBin, wTup, wLst, wLstM, wFrz, wIsN, wOrL, wDict0, wIt, wRng1, wRng2, wMeth, wMethT, wNoP, wPt, wSl, wRev, wRgs, fTupR, fLstR, fLstRM, rgM, wCall, wYes, bOf, gam0, List.map_cons, List.map_nil, List.length_cons, List.length_nil, List.replicate, List.cons_append, List.nil_append, List.append_nil, List.getElem?_cons_zero, List.getElem?_cons_succ, List.set_cons_zero, List.set_cons_succ, Nat.add_sub_cancel, Nat.sub_self, Nat.sub_zero, Nat.reduceAdd, Nat.reduceSub, Nat.zero_add, if_true, if_false, Bool.false_eq_true, Bool.not_true, Bool.not_false, true_and, and_true, pures, D.pure, Bool.and_true, Bool.true_and]
  refine ⟨by rw [List.length_map]; unfold big; omega, wLcL_map (fun d => match d with | .int k => .int (a.getD k.toNat 0) | d => d) _ (fun x hx => ?_) ?_⟩
  · obtain ⟨k, hk, rfl⟩ := List.mem_map.mp hx
    refine ⟨rfl, fun μ' Q q => ?_⟩
    obtain ⟨h0, h1⟩ := hb k hk
    simp only [dIx, items, wSeq, wNext, wRet, wDrop, wAsg, wPar, wIf, wBrk, wCnt, wRaise, wIte, wAndV, wOrV, wNotV, wNeg, wAnd, wOr, wNot, wTest, wCB, wCons, wNil, wVar, wC, wBin, wTup, wLst, wLstM, wFrz, wIsN, wOrL, wDict0, wIt, wRng1, wRng2, wMeth, wMethT, wNoP, wPt, wSl, wRev, wRgs, fTupR, fLstR, fLstRM, rgM, wCall, wYes, bOf, gam0, List.map_cons, List.map_nil, List.length_cons, List.length_nil, List.replicate, List.cons_append, List.nil_append, List.append_nil, List.getElem?_cons_zero, List.getElem?_cons_succ, List.set_cons_zero, List.set_cons_succ, Nat.add_sub_cancel, Nat.sub_self, Nat.sub_zero, Nat.reduceAdd, Nat.reduceSub, Nat.zero_add, if_true, if_false, Bool.false_eq_true, Bool.not_true, Bool.not_false, true_and, and_true, pures, D.pure, Bool.and_true, Bool.true_and]
    rw [atI_in h0 (getD_map h0 h1)]
    exact q
  · have e : ((b.map D.int).map fun d => match d with | .int k => D.int (a.getD k.toNat 0) | d => d) = (putL a b).map D.int := by
      unfold putL
      rw [List.map_map, List.map_map]
      rfl
    rw [e]
    exact ⟨pures_ints _, r⟩
theorem pure_back (K : PySem.W.Frag) (A : Adr) (ds : List D) (R : D → Prop) (Z : Addr → Prop) (hl : ds.length = 1) (h : sp_back A ds R Z) : w_back K A (gam0 2 ds) [] (Pt R Z) := by
  obtain ⟨a, rfl, ha, ha1, r⟩ := h
  simp only [w_back, tI, wLc, wipeG, itemsI, dLen, items, List.length_map, wSeq, wNext, wRet, wDrop, wAsg, wPar, wIf, wBrk, wCnt, wRaise, wIte, wAndV, wOrV, wNotV, wNeg, wAnd, wOr, wNot, wTest, wCB, wCons, wNil, wVar, wC, wBin, wTup, wLst, wLstM, wFrz, wIsN, wOrL, wDict0, wIt, wRng1, wRng2, wMeth, wMethT, wNoP, wPt, wSl, wRev, wRgs, fTupR, fLstR, fLstRM, rgM, wCall, wYes, bOf, gam0, List.map_cons, List.map_nil, List.length_cons, List.length_nil, List.replicate, List.cons_append, List.nil_append, List.append_nil, List.getElem?_cons_zero, List.getElem?_cons_succ, List.set_cons_zero, List.set_cons_succ, Nat.add_sub_cancel, Nat.sub_self, Nat.sub_zero, Nat.reduceAdd, Nat.reduceSub, Nat.zero_add, if_true, if_false, Bool.false_eq_true, Bool.not_true, Bool.not_false, true_and, and_true, pures, D.pure, Bool.and_true, Bool.true_and]
  refine ⟨by unfold rgOk; omega, by rw [rgD_rgL, List.length_map, rgL_len]; unfold big; omega, wLcL_map (fun d => match d with | .int k => .int (a.idxOf k : Nat) | d => d) _ (fun x hx => ?_) ?_⟩
  · rw [rgD_rgL] at hx
    obtain ⟨k, hk, rfl⟩ := List.mem_map.mp hx
    refine ⟨rfl, fun μ' Q q => ?_⟩
    obtain ⟨h0, h1⟩ := rgL_mem.mp hk
    simp only [dIx, items, wSeq, wNext, wRet, wDrop, wAsg, wPar, wIf, wBrk, wCnt, wRaise, wIte, wAndV, wOrV, wNotV, wNeg, wAnd, wOr, wNot, wTest, wCB, wCons, wNil, wVar, wC, wBin, wTup, wLst, wLstM, wFrz, wIsN, wOrL, wDict0, wIt, wRng1, wRng2, wMeth, wMethT, wNoP, wPt, wSl, wRev, wRgs, fTupR, fLstR, fLstRM, rgM, wCall, wYes, bOf, gam0, List.map_cons, List.map_nil, List.length_cons, List.length_nil, List.replicate, List.cons_append, List.nil_append, List.append_nil, List.getElem?_cons_zero, List.getElem?_cons_succ, List.set_cons_zero, List.set_cons_succ, Nat.add_sub_cancel, Nat.sub_self, Nat.sub_zero, Nat.reduceAdd, Nat.reduceSub, Nat.zero_add, if_true, if_false, Bool.false_eq_true, Bool.not_true, Bool.not_false, true_and, and_true, pures, D.pure, Bool.and_true, Bool.true_and]
    refine ⟨a, rfl, ?_, q⟩
    have := ha k.toNat (by omega)
    rw [Int.toNat_of_nonneg h0] at this
    exact this
  · have e : ((rgD 0 a.length).map fun d => match d with | .int k => D.int (a.idxOf k : Nat) | d => d) = (backL a).map D.int := by
      unfold backL
      rw [rgD_rgL]
      unfold rgL
      rw [List.map_map, List.map_map, List.map_map]
      rfl
    rw [e]
    exact ⟨pures_ints _, r⟩
theorem pure_plain (K : PySem.W.Frag) (A : Adr) (ds : List D) (R : D → Prop) (Z : Addr → Prop) (hl : ds.length = 1) (h : sp_plain A ds R Z) : w_plain K A (gam0 1 ds) [] (Pt R Z) := by
  obtain ⟨y, rfl, oky, r, z⟩ := h
  simp only [w_plain, wSeq, wNext, wRet, wDrop, wAsg, wPar, wIf, wBrk, wCnt, wRaise, wIte, wAndV, wOrV, wNotV, wNeg, wAnd, wOr, wNot, wTest, wCB, wCons, wNil, wVar, wC, wBin, wTup, wLst, wLstM, wFrz, wIsN, wOrL, wDict0, wIt, wRng1, wRng2, wMeth, wMethT, wNoP, wPt, wSl, wRev, wRgs, fTupR, fLstR, fLstRM, rgM, wCall, wYes, bOf, gam0, List.map_cons, List.map_nil, List.length_cons, List.length_nil, List.replicate, List.cons_append, List.nil_append, List.append_nil, List.getElem?_cons_zero, List.getElem?_cons_succ, List.set_cons_zero, List.set_cons_succ, Nat.add_sub_cancel, Nat.sub_self, Nat.sub_zero, Nat.reduceAdd, Nat.reduceSub, Nat.zero_add, if_true, if_false, Bool.false_eq_true, Bool.not_true, Bool.not_false, true_and, and_true, pures, D.pure, Bool.and_true, Bool.true_and]
  refine ⟨okT_pure oky, y, rfl, oky, fun hs => ?_, z⟩
  obtain ⟨n, rfl, n2, n5⟩ := isSize_num hs
  refine ⟨by unfold rgOk; omega, ?_⟩
  rw [rgD_rgL]
  exact ⟨pures_ints _, r n rfl n2 n5⟩
end TC

set_option Elab.async false
set_option linter.all false
set_option maxRecDepth 100000
set_option maxHeartbeats 2000000
namespace TC
open PySem PySem.Spec PyProof.Rows L2
theorem cutD_len {ds : List D} {lo hi : Option Int} : (cutD ds lo hi).length ≤ ds.length := by
  unfold cutD
  rw [List.length_take, List.length_drop]
  omega
theorem cutD_mem {ds : List D} {lo hi : Option Int} {d : D} (h : d ∈ cutD ds lo hi) : d ∈ ds := List.mem_of_mem_drop (List.mem_of_mem_take h)
theorem cutD_ints {ns : List Int} {lo hi : Option Int} : ∃ ms : List Int, cutD (ns.map D.int) lo hi = ms.map D.int := by
  unfold cutD
  exact ⟨(ns.drop _).take _, by rw [List.map_take, List.map_drop]⟩
theorem pure_law_state (K : PySem.W.Frag) (A : Adr) (ds : List D) (R : D → Prop) (Z : Addr → Prop) (hl : ds.length = 1) (h : sp_law_state A ds R Z) : w_law_state K A (gam0 2 ds) [] (Pt R Z) := by
  obtain ⟨ns, rfl, hn, r⟩ := h
  obtain ⟨ms, hm⟩ := cutD_ints (ns := ns) (lo := none) (hi := some 63)
  have hml : ms.length ≤ 63 := by
    have := cutD_len (ds := ns.map D.int) (lo := none) (hi := some 63)
    rw [hm, List.length_map, List.length_map] at this
    omega
  simp only [w_law_state, wLc, wipeG, itemsI, hm, wSeq, wNext, wRet, wDrop, wAsg, wPar, wIf, wBrk, wCnt, wRaise, wIte, wAndV, wOrV, wNotV, wNeg, wAnd, wOr, wNot, wTest, wCB, wCons, wNil, wVar, wC, wBin, wTup, wLst, wLstM, wFrz, wIsN, wOrL, wDict0, wIt, wRng1, wRng2, wMeth, wMethT, wNoP, wPt, wSl, wRev, wRgs, fTupR, fLstR, fLstRM, rgM, wCall, wYes, bOf, gam0, List.map_cons, List.map_nil, List.length_cons, List.length_nil, List.replicate, List.cons_append, List.nil_append, List.append_nil, List.getElem?_cons_zero, List.getElem?_cons_succ, List.set_cons_zero, List.set_cons_succ, Nat.add_sub_cancel, Nat.sub_self, Nat.sub_zero, Nat.reduceAdd, Nat.reduceSub, Nat.zero_add, if_true, if_false, Bool.false_eq_true, Bool.not_true, Bool.not_false, true_and, and_true, pures, D.pure, Bool.and_true, Bool.true_and]
  refine ⟨by rw [List.length_map]; unfold big; omega, wLcL_map (fun d => match d with | .int i => .int (if i < 0 then -i else i) | d => d) _ (fun x hx => ?_) ?_⟩
  · obtain ⟨k, hk, rfl⟩ := List.mem_map.mp hx
    exact ⟨rfl, fun μ' Q q => q⟩
  · have e : ((ms.map D.int).map fun d => match d with | .int i => D.int (if i < 0 then -i else i) | d => d) = (ms.map fun i => if i < 0 then -i else i).map D.int := by
      rw [List.map_map, List.map_map]
      rfl
    rw [e]
    have fin : ∀ cs : List Int, cs ≠ [] → cs.length ≤ 64 → (∀ c ∈ cs, 0 ≤ c) → 3 ≤ big ∧ (D.lst [.lst (cs.map D.int), .int 0, .int 1]).pure = true ∧ R (.lst [.lst (cs.map D.int), .int 0, .int 1]) := fun cs h1 h2 h3 => by
      refine ⟨by decide, ?_, r cs h1 h2 h3⟩
      show (pures (cs.map D.int) && true) = true
      rw [pures_ints]
      rfl
    by_cases he : (List.map D.int (ms.map fun i => if i < 0 then -i else i)).isEmpty = true
    · show if (List.map D.int (ms.map fun i => if i < 0 then -i else i)).isEmpty = true then _ else _
      rw [if_pos he]
      refine ⟨by decide, ?_⟩
      have := fin [7] (by simp) (by simp) (by simp)
      simp only [wSeq, wNext, wRet, wDrop, wAsg, wPar, wIf, wBrk, wCnt, wRaise, wIte, wAndV, wOrV, wNotV, wNeg, wAnd, wOr, wNot, wTest, wCB, wCons, wNil, wVar, wC, wBin, wTup, wLst, wLstM, wFrz, wIsN, wOrL, wDict0, wIt, wRng1, wRng2, wMeth, wMethT, wNoP, wPt, wSl, wRev, wRgs, fTupR, fLstR, fLstRM, rgM, wCall, wYes, bOf, gam0, List.map_cons, List.map_nil, List.length_cons, List.length_nil, List.replicate, List.cons_append, List.nil_append, List.append_nil, List.getElem?_cons_zero, List.getElem?_cons_succ, List.set_cons_zero, List.set_cons_succ, Nat.add_sub_cancel, Nat.sub_self, Nat.sub_zero, Nat.reduceAdd, Nat.reduceSub, Nat.zero_add, if_true, if_false, Bool.false_eq_true, Bool.not_true, Bool.not_false, true_and, and_true, pures, D.pure, Bool.and_true, Bool.true_and, D.pure, pures] at this ⊢
      exact this
    · show if (List.map D.int (ms.map fun i => if i < 0 then -i else i)).isEmpty = true then _ else _
      rw [if_neg he]
      have := fin (ms.map fun i => if i < 0 then -i else i) (fun q => he (by rw [q]; rfl)) (by rw [List.length_map]; omega) (fun c hc => by
        obtain ⟨i, _, rfl⟩ := List.mem_map.mp hc
        split <;> omega)
      simp only [wSeq, wNext, wRet, wDrop, wAsg, wPar, wIf, wBrk, wCnt, wRaise, wIte, wAndV, wOrV, wNotV, wNeg, wAnd, wOr, wNot, wTest, wCB, wCons, wNil, wVar, wC, wBin, wTup, wLst, wLstM, wFrz, wIsN, wOrL, wDict0, wIt, wRng1, wRng2, wMeth, wMethT, wNoP, wPt, wSl, wRev, wRgs, fTupR, fLstR, fLstRM, rgM, wCall, wYes, bOf, gam0, List.map_cons, List.map_nil, List.length_cons, List.length_nil, List.replicate, List.cons_append, List.nil_append, List.append_nil, List.getElem?_cons_zero, List.getElem?_cons_succ, List.set_cons_zero, List.set_cons_succ, Nat.add_sub_cancel, Nat.sub_self, Nat.sub_zero, Nat.reduceAdd, Nat.reduceSub, Nat.zero_add, if_true, if_false, Bool.false_eq_true, Bool.not_true, Bool.not_false, true_and, and_true, pures, D.pure, Bool.and_true, Bool.true_and, D.pure, pures] at this ⊢
      exact this
theorem rgI_tok : ∀ n ∈ [2, 3, 4, 5], ∀ at_ ∈ List.range n, at_ + 1 < n → tOk (rgL at_ ++ [(at_ : Int) + 1, (at_ : Int)] ++ (List.range (n - (at_ + 2))).map fun (k : Nat) => ((at_ : Int) + 2 + k)) = true ∧ (rgL at_ ++ [(at_ : Int) + 1, (at_ : Int)] ++ (List.range (n - (at_ + 2))).map fun (k : Nat) => ((at_ : Int) + 2 + k)).length = n := by decide
theorem rgD_ints {lo hi : Int} : rgD lo hi = ((List.range (hi - lo).toNat).map fun (k : Nat) => (lo + (k : Int))).map D.int := by
  unfold rgD
  rw [List.map_map]
  rfl
theorem pure_law_into (K : PySem.W.Frag) (A : Adr) (ds : List D) (R : D → Prop) (Z : Addr → Prop) (hl : ds.length = 2) (h : sp_law_into A ds R Z) : w_law_into K A (gam0 3 ds) [] (Pt R Z) := pure_put K A ds R Z hl h
theorem pure_law_undone (K : PySem.W.Frag) (A : Adr) (ds : List D) (R : D → Prop) (Z : Addr → Prop) (hl : ds.length = 1) (h : sp_law_undone A ds R Z) : w_law_undone K A (gam0 2 ds) [] (Pt R Z) := pure_back K A ds R Z hl h
end TC

set_option Elab.async false
set_option linter.all false
set_option maxRecDepth 100000
set_option maxHeartbeats 2000000
namespace TC
open PySem PySem.Spec PyProof.Rows L2
/-! ### something that may be none -/
theorem okD_int (n : Int) : okD (.int n) = true := rfl
theorem okD_tup {ds : List D} (h : ∀ d ∈ ds, okD d = true) : okD (.tup ds) = true := by
  unfold okD
  rw [Bool.and_eq_true]
  exact ⟨rfl, pures_of fun d hd => okD_pure (h d hd)⟩
theorem okD_lst {ds : List D} (h : ∀ d ∈ ds, okD d = true) : okD (.lst ds) = true := by
  unfold okD
  rw [Bool.and_eq_true]
  exact ⟨rfl, pures_of fun d hd => okD_pure (h d hd)⟩
theorem thing_tup {ds : List D} (h : ∀ d ∈ ds, okD d = true) (hl : ds.length ≤ 1000) : thing (.tup ds) = true := by
  unfold thing okT
  rw [okD_tup h]
  show ((true && (ds.all okD && decide (ds.length ≤ 1000))) && (D.tup ds).pure) = true
  rw [List.all_eq_true.mpr h, decide_eq_true hl, okD_pure (okD_tup h)]
  rfl
theorem thing_okT {x : D} (h : thing x = true) : okT x = true := by
  unfold thing at h
  rw [Bool.and_eq_true] at h
  exact h.1
theorem ints_ok (a : List Int) : ∀ d ∈ a.map D.int, okD d = true := fun d h => by
  obtain ⟨n, _, rfl⟩ := List.mem_map.mp h
  rfl
theorem thing_tI {a : List Int} (h : tOk a = true) : thing (tI a) = true := thing_tup (ints_ok a) (by
  rw [List.length_map]
  have := (tOk_iff.mp h).1
  omega)
theorem pick_things {A : Adr} {L : List D} {R : D → Prop} {Z : Addr → Prop} (h1 : L ≠ []) (h2 : L.length ≤ 1000) (r : ∀ d, thing d = true → R d) (hL : ∀ d ∈ L, thing d = true) : pures [.st, .lst L] = true ∧ sp_law_pick A [.st, .lst L] (fun d => d.pure = true ∧ R d) Z := by
  have hp : pures L = true := pures_of fun d hd => okT_pure (thing_okT (hL d hd))
  refine ⟨?_, L, rfl, h1, h2, hp, fun d hd => ⟨okT_pure (thing_okT (hL d hd)), r d (hL d hd)⟩⟩
  show (true && (pures L && true)) = true
  rw [hp]
  rfl
theorem cut_one {ds : List D} {i : Int} (h0 : 0 ≤ i) (h1 : i < ds.length) : cutD ds (some i) (some (i + 1)) ≠ [] := by
  intro e
  have := congrArg List.length e
  obtain ⟨k, rfl⟩ : ∃ k : Nat, i = k := ⟨i.toNat, by omega⟩
  have e1 : ((k : Int) + 1) = ((k + 1 : Nat) : Int) := by omega
  unfold cutD at this
  rw [e1, HT.sIx_nat, HT.sIx_nat, List.length_take, List.length_drop] at this
  simp only [List.length_nil] at this
  omega
/-! ### the law's own look -/
theorem isNum_int {d : D} (h : isNum d = true) : ∃ n : Int, d = .int n := by
  cases d with
  | int n => exact ⟨n, rfl⟩
  | _ => cases h
theorem ints_filter : ∀ ds : List D, ∃ ns : List Int, ds.filter isNum = ns.map D.int
  | [] => ⟨[], rfl⟩
  | d :: ds => by
    obtain ⟨ns, e⟩ := ints_filter ds
    cases h : isNum d with
    | true =>
      obtain ⟨n, rfl⟩ := isNum_int h
      exact ⟨n :: ns, by rw [List.filter_cons_of_pos h, e]; rfl⟩
    | false => exact ⟨ns, by rw [List.filter_cons_of_neg (by rw [h]; decide), e]⟩
theorem countP_ints (ns : List Int) (k : Int) : ((ns.map D.int).countP fun z => deq z (.int k)) = ns.count k := by
  rw [List.countP_map]
  refine List.countP_congr fun n _ => ?_
  show deq (.int n) (.int k) = true ↔ (n == k) = true
  rw [deq_int]
  simp
theorem turn_by_counts {ds : List D} {ns : List Int} (hf : ds.filter isNum = ns.map D.int) {n : Nat} (hl : ds.length = n) (h2 : 2 ≤ n) (h5 : n ≤ 5) :
    (sizeOf (.tup ds) = n) ↔ ∀ k ∈ rgL n, ns.count k = 1 := by
  constructor
  · intro h k hk
    obtain ⟨ms, e, ht, hs⟩ := sizeOf_turn (x := .tup ds) (by omega)
    cases e
    have e : (ms.map D.int).filter isNum = ms.map D.int := List.filter_eq_self.mpr fun d hd => by
      obtain ⟨m, _, rfl⟩ := List.mem_map.mp hd
      rfl
    rw [e] at hf
    have e2 : ms = ns := by
      have e2 : nums (ms.map D.int) = nums (ns.map D.int) := by rw [hf]
      rw [nums_ints, nums_ints] at e2
      exact Option.some.inj e2
    subst e2
    rw [List.length_map] at hl
    have hm : k ∈ ms := by
      obtain ⟨h1, h2⟩ := rgL_mem.mp hk
      have := (tOk_iff.mp ht).2 k.toNat (by omega)
      rw [Int.toNat_of_nonneg h1] at this
      exact this
    have h1 := List.nodup_iff_count.mp (tOk_nodup ht) k
    have h2 := List.count_pos_iff.mpr hm
    omega
  · intro h
    have hs : ∀ x ∈ rgL n, x ∈ ns := fun x hx => List.count_pos_iff.mp (by rw [h x hx]; decide)
    have hle : ns.length ≤ ds.length := by
      have := List.length_filter_le isNum ds
      rw [hf, List.length_map] at this
      exact this
    have hp := perm_of_sub (rgL_nodup n) hs (by rw [rgL_len]; omega)
    have hl2 := hp.length_eq
    rw [rgL_len] at hl2
    have hall : ds.filter isNum = ds := by
      apply List.filter_eq_self.mpr
      apply List.length_filter_eq_length_iff.mp
      rw [hf, List.length_map]
      omega
    rw [hf] at hall
    subst hall
    have ht := tOk_of_perm hp.symm h2 h5
    rw [show D.tup (ns.map D.int) = tI ns from rfl, sizeOf_ok ht]
    omega
theorem sizeOf_len {ds : List D} {n : Nat} (h : sizeOf (.tup ds) = n) (hn : n ≠ 0) : ds.length = n := by
  obtain ⟨ms, e, ht, hs⟩ := sizeOf_turn (x := .tup ds) (by omega)
  cases e
  rw [List.length_map]
  omega
end TC

set_option Elab.async false
set_option linter.all false
set_option maxRecDepth 100000
set_option maxHeartbeats 2000000
namespace TC
open PySem PySem.Spec PyProof.Rows L2
theorem deq_str (s t : Str) : deq (.str s) (.str t) = decide (s = t) := by
  show PyData.eqv (.str s) (.str t) = _
  rw [PyData.eqv]
  by_cases h : s = t <;> simp [h]
/-- what is known of the errors' classes -/
structure ExF (K : PySem.W.Frag) (A : Adr) : Prop where
  m_size : PySem.W.exmOne K (.ref A.c_NoSize) (.ref A.c_CoatError) = some true
  m_turn : PySem.W.exmOne K (.ref A.c_NoTurn) (.ref A.c_CoatError) = some true
  x_size : ExcC K A.c_NoSize
  x_turn : ExcC K A.c_NoTurn
  k_ss : PySem.W.kitOne K (.ref A.c_NoSize) (.ref A.c_NoSize) = some true
  k_st : PySem.W.kitOne K (.ref A.c_NoSize) (.ref A.c_NoTurn) = some false
  k_sg : PySem.W.kitOne K (.ref A.c_NoSize) (.ref A.c_NoGroup) = some false
  k_sv : PySem.W.kitOne K (.ref A.c_NoSize) (.type "ValueError") = some true
  k_ts : PySem.W.kitOne K (.ref A.c_NoTurn) (.ref A.c_NoSize) = some false
  k_tt : PySem.W.kitOne K (.ref A.c_NoTurn) (.ref A.c_NoTurn) = some true
  k_tg : PySem.W.kitOne K (.ref A.c_NoTurn) (.ref A.c_NoGroup) = some false
  k_tv : PySem.W.kitOne K (.ref A.c_NoTurn) (.type "ValueError") = some true
theorem doneOk.imp {way : Str} {x y : D} {R R' : D → Prop} {S S' T T' : Prop} (h : doneOk way x y R S T) (hr : ∀ d, R d → R' d) (hs : S → S') (ht : T → T') : doneOk way x y R' S' T' := by
  rcases h with ⟨e, h1, h2⟩ | ⟨e, h1, h2⟩ | ⟨e, h1, h2⟩
  · exact .inl ⟨e, fun a b p q r s u => hr _ (h1 a b p q r s u), fun z => ht (h2 z)⟩
  · exact .inr (.inl ⟨e, fun a p q => hr _ (h1 a p q), fun z => ht (h2 z)⟩)
  · exact .inr (.inr ⟨e, fun a p q r => hr _ (h1 a p q r), fun z => hs (h2 z)⟩)
theorem eqOk_bl (b : Bool) : eqOk (.bl b) = true := by
  show (true && SeqAt.shaped (.bool b)) = true
  simp [SeqAt.shaped, PyData.canLay0, PyData.depth]
theorem deq_bl (a b : Bool) : deq (.bl a) (.bl b) = (a == b) := by
  show PyData.eqv (.bool a) (.bool b) = _
  rw [PyData.eqv]
theorem rg26 : rgD 2 6 = [.int 2, .int 3, .int 4, .int 5] := rfl
theorem deq_lst_of (a b : List Int) {x y : List D} (h1 : x = a.map D.int) (h2 : y = b.map D.int) : eqOk (.lst x) = true ∧ eqOk (.lst y) = true ∧ deq (.lst x) (.lst y) = decide (a = b) := by
  subst h1 h2
  exact ⟨eqOk_lI a, eqOk_lI b, deq_lI a b⟩
theorem sizeOf_cases (x : D) : sizeOf x = 0 ∨ sizeOf x = 2 ∨ sizeOf x = 3 ∨ sizeOf x = 4 ∨ sizeOf x = 5 := by
  by_cases h : sizeOf x = 0
  · exact .inl h
  · obtain ⟨ns, _, ht, e⟩ := sizeOf_turn h
    have := (tOk_iff.mp ht).1
    omega
theorem tried_it {A : Adr} {way : Str} {x y : D} {Q : D → Prop} {Z : Addr → Prop} (tx : thing x = true) (ty : thing y = true) (w : Str) (h : doneOk way x y (fun _ => w = "told") (w = "size") (w = "turn")) (q : Q (.str w)) : sp_law_tried A [.str way, x, y] Q Z :=
  ⟨way, x, y, rfl, tx, ty, h.imp (fun _ e => by rw [← e]; exact q) (fun e => by rw [← e]; exact q) (fun e => by rw [← e]; exact q)⟩
theorem wForL_go {j : Nat} {body : DS} {P : Post} (I : List D → Gam → Mem → Prop) (fin : ∀ Γ μ, I [] Γ μ → P.nx Γ μ)
    (step : ∀ x xs Γ μ, I (x :: xs) Γ μ → (nx : Gam → Mem → Prop) → (∀ Γ' μ', I xs Γ' μ' → nx Γ' μ') → body (Γ.set j (some x)) μ ⟨nx, P.rt, P.nx, nx, P.rz⟩) :
    ∀ (ds : List D) (Γ : Gam) (μ : Mem), I ds Γ μ → wForL (tfN j) body ds Γ μ P
  | [], Γ, μ, h => fin Γ μ h
  | x :: xs, Γ, μ, h => step x xs Γ μ h _ fun Γ' μ' h' => wForL_go I fin step xs Γ' μ' h'
end TC

set_option Elab.async false
set_option linter.all false
set_option maxRecDepth 100000
set_option maxHeartbeats 4000000
namespace TC
open PySem PySem.Spec PyProof.Rows L2
/-! ### turns put into one another -/
theorem rgL_getD {n j : Nat} (h : j < n) : (rgL n).getD j 0 = j := by
  unfold rgL
  rw [List.getD_eq_getElem?_getD, List.getElem?_map, List.getElem?_range h]
  rfl
theorem put_rg (a : List Int) : putL a (rgL a.length) = a := by
  unfold putL
  apply List.ext_getElem
  · rw [List.length_map, rgL_len]
  · intro i h1 h2
    rw [List.getElem_map]
    have e : (rgL a.length)[i]'(by rw [rgL_len]; exact h2) = (i : Int) := by
      have := rgL_getD h2
      rw [List.getD_eq_getElem?_getD, List.getElem?_eq_getElem (by rw [rgL_len]; exact h2)] at this
      exact this
    rw [e, Int.toNat_natCast, List.getD_eq_getElem?_getD, List.getElem?_eq_getElem h2]
    rfl
theorem rg_put {a : List Int} {n : Nat} (h : ∀ k ∈ a, 0 ≤ k ∧ k < n) : putL (rgL n) a = a := by
  unfold putL
  have : a.map (fun k => (rgL n).getD k.toNat 0) = a.map id := by
    apply List.map_congr_left
    intro k hk
    obtain ⟨h0, h1⟩ := h k hk
    rw [rgL_getD (by omega)]
    show ((k.toNat : Nat) : Int) = k
    omega
  rw [this, List.map_id]
theorem put_assoc {a b c : List Int} (h : ∀ k ∈ c, 0 ≤ k ∧ k < b.length) : putL (putL a b) c = putL a (putL b c) := by
  unfold putL
  rw [List.map_map]
  apply List.map_congr_left
  intro k hk
  obtain ⟨h0, h1⟩ := h k hk
  have hl : k.toNat < b.length := by omega
  show (b.map _).getD k.toNat 0 = a.getD (b.getD k.toNat 0).toNat 0
  rw [List.getD_eq_getElem?_getD, List.getElem?_map, List.getElem?_eq_getElem hl, List.getD_eq_getElem?_getD (l := b), List.getElem?_eq_getElem hl]
  rfl
theorem len_put (a b : List Int) : (putL a b).length = b.length := by unfold putL; rw [List.length_map]
theorem len_back (a : List Int) : (backL a).length = a.length := by unfold backL; rw [List.length_map, List.length_range]
theorem tOk_put {a b : List Int} (ta : tOk a = true) (tb : tOk b = true) (e : a.length = b.length) : tOk (putL a b) = true := by
  have hb := (tOk_iff.mp tb).1
  refine tOk_of_perm (n := b.length) ?_ hb.1 hb.2
  have p1 : (putL a b).Perm (putL a (rgL b.length)) := (tOk_perm tb).symm.map _
  rw [← e, put_rg] at p1
  rw [← e]
  exact p1.trans (tOk_perm ta).symm
theorem idx_mem {a : List Int} (ta : tOk a = true) {k : Nat} (h : k < a.length) : a.getD (a.idxOf (k : Int)) 0 = k := by
  have hm := (tOk_iff.mp ta).2 k h
  have hl : a.idxOf (k : Int) < a.length := List.idxOf_lt_length_iff.mpr hm
  rw [List.getD_eq_getElem?_getD, List.getElem?_eq_getElem hl, List.getElem_idxOf hl]
  rfl
theorem put_back {a : List Int} (ta : tOk a = true) : putL a (backL a) = rgL a.length := by
  unfold putL backL rgL
  rw [List.map_map]
  apply List.map_congr_left
  intro k hk
  show a.getD ((a.idxOf (k : Int) : Nat) : Int).toNat 0 = _
  rw [Int.toNat_natCast, idx_mem ta (List.mem_range.mp hk)]
theorem back_getD {a : List Int} {j : Nat} (h : j < a.length) : (backL a).getD j 0 = (a.idxOf (j : Int) : Nat) := by
  unfold backL
  rw [List.getD_eq_getElem?_getD, List.getElem?_map, List.getElem?_range h]
  rfl
theorem back_map {a : List Int} (ta : tOk a = true) : a.map (fun k => ((a.idxOf k : Nat) : Int)) = rgL a.length := by
  apply List.ext_getElem
  · rw [List.length_map, rgL_len]
  · intro i h1 h2
    rw [rgL_len] at h2
    rw [List.getElem_map, (tOk_nodup ta).idxOf_getElem i h2]
    have := rgL_getD h2
    rw [List.getD_eq_getElem?_getD, List.getElem?_eq_getElem (by rw [rgL_len]; exact h2)] at this
    exact this.symm
theorem back_put {a : List Int} (ta : tOk a = true) : putL (backL a) a = rgL a.length := by
  rw [← back_map ta]
  unfold putL
  apply List.map_congr_left
  intro k hk
  obtain ⟨h0, h1⟩ := tOk_mem ta hk
  rw [back_getD (by omega), Int.toNat_of_nonneg h0]
theorem tOk_back {a : List Int} (ta : tOk a = true) : tOk (backL a) = true := by
  have ha := (tOk_iff.mp ta).1
  refine tOk_of_perm (n := a.length) ?_ ha.1 ha.2
  have e : backL a = (rgL a.length).map (fun k => ((a.idxOf k : Nat) : Int)) := by
    unfold backL rgL
    rw [List.map_map]
    rfl
  rw [e]
  exact ((tOk_perm ta).map _).trans (.of_eq (back_map ta))
/-! ### the calls, as the law asks them -/
theorem pures2 (a b : List Int) : pures [tI a, tI b] = true := by rw [pures_all]; simp [pure_tI]
theorem pures1 (a : List Int) : pures [tI a] = true := by rw [pures_all]; simp [pure_tI]
theorem dNe_tI {a b : List Int} {μ : Mem} {k : RD} (e : a = b) (q : k (.bl false) μ) : dNe (tI a) (tI b) μ k := by
  refine ⟨⟨eqOk_tI a, eqOk_tI b⟩, ?_⟩
  show k (.bl (!deq (tI a) (tI b))) μ
  rw [deq_tI, decide_eq_true e]
  exact q
theorem dNe_if {x y : D} {μ : Mem} {P Q : Prop} (hx : eqOk (res x μ) = true) (hy : eqOk (res y μ) = true) (q : if (!deq (res x μ) (res y μ)) = true then P else Q) : dNe x y μ fun d μ1 => match d with | .bl b => if b = true then P else Q | _ => False :=
  ⟨⟨hx, hy⟩, q⟩
theorem into_it {A : Adr} {a b : List Int} {Q : D → Prop} {Z : Addr → Prop} (ta : tOk a = true) (tb : tOk b = true) (e : a.length = b.length) (q : Q (tI (putL a b))) : pures [tI a, tI b] = true ∧ sp_into A [tI a, tI b] Q Z := by
  refine ⟨pures2 a b, _, _, rfl, thing_okT (thing_tI ta), thing_okT (thing_tI tb), fun c d h1 h2 _ _ _ => ?_, fun h => ?_⟩
  · have e1 : a = c := by
      have := congrArg (fun x => match x with | D.tup ds => nums ds | _ => none) h1
      exact Option.some.inj ((nums_ints a).symm.trans (this.trans (nums_ints c)))
    have e2 : b = d := by
      have := congrArg (fun x => match x with | D.tup ds => nums ds | _ => none) h2
      exact Option.some.inj ((nums_ints b).symm.trans (this.trans (nums_ints d)))
    rw [← e1, ← e2]
    exact q
  · refine (h ⟨?_, ?_⟩).elim
    · rw [sizeOf_ok ta]
      have := (tOk_iff.mp ta).1
      omega
    · rw [sizeOf_ok ta, sizeOf_ok tb, e]
theorem put_it {A : Adr} {a b : List Int} {Q : D → Prop} {Z : Addr → Prop} (ta : tOk a = true) (tb : tOk b = true) (e : a.length = b.length) (q : Q (tI (putL a b))) : pures [tI a, tI b] = true ∧ sp_law_into A [tI a, tI b] Q Z :=
  ⟨pures2 a b, a, b, rfl, fun k hk => by rw [e]; exact tOk_mem tb hk, by have := (tOk_iff.mp tb).1; omega, q⟩
theorem undone_it {A : Adr} {a : List Int} {Q : D → Prop} {Z : Addr → Prop} (ta : tOk a = true) (q : Q (tI (backL a))) : pures [tI a] = true ∧ sp_undone A [tI a] Q Z := by
  refine ⟨pures1 a, _, rfl, thing_okT (thing_tI ta), fun c h1 _ => ?_, fun h => ?_⟩
  · have e1 : a = c := by
      have := congrArg (fun x => match x with | D.tup ds => nums ds | _ => none) h1
      exact Option.some.inj ((nums_ints a).symm.trans (this.trans (nums_ints c)))
    rw [← e1]
    exact q
  · rw [sizeOf_ok ta] at h
    have := (tOk_iff.mp ta).1
    omega
theorem back_it {A : Adr} {a : List Int} {Q : D → Prop} {Z : Addr → Prop} (ta : tOk a = true) (q : Q (tI (backL a))) : pures [tI a] = true ∧ sp_law_undone A [tI a] Q Z :=
  ⟨pures1 a, a, rfl, fun k hk => (tOk_iff.mp ta).2 k hk, by have := (tOk_iff.mp ta).1; omega, q⟩
theorem plain_it {A : Adr} {n : Nat} {Q : D → Prop} {Z : Addr → Prop} (h2 : 2 ≤ n) (h5 : n ≤ 5) (q : Q (tI (rgL n))) : sp_plain A [.int n] Q Z := by
  refine ⟨_, rfl, rfl, fun m h1 _ _ => ?_, fun h => ?_⟩
  · have e : n = m := by
      have := D.int.inj h1
      omega
    rw [← e]
    exact q
  · exact (isSize_no h ⟨by omega, by omega⟩).elim
theorem exact_it {A : Adr} {a b : List Int} {Q : D → Prop} {Z : Addr → Prop} (ta : tOk a = true) (e : a = b) (q : Q (.bl true)) : pures [tI a, tI b] = true ∧ sp_law_exact A [tI a, tI b] Q Z := by
  have := (tOk_iff.mp ta).1
  subst e
  exact ⟨pures2 a a, a, a, rfl, by omega, by omega, by rw [decide_eq_true rfl]; exact q⟩
theorem turn_it {A : Adr} {n : Nat} {Q : D → Prop} {Z : Addr → Prop} (h2 : 2 ≤ n) (h5 : n ≤ 5) (q : ∀ a : List Int, tOk a = true → a.length = n → Q (tI a)) : sp_law_a_turn A [.st, .int n] Q Z :=
  ⟨n, rfl, by omega, by omega, fun a ta e => q a ta (by omega)⟩
theorem turn_it2 {A : Adr} {i : Int} {Q : D → Prop} {Z : Addr → Prop} (h2 : 2 ≤ i) (h5 : i ≤ 5) (q : ∀ a : List Int, tOk a = true → Q (tI a)) : pures [.st, .int i] = true ∧ sp_law_a_turn A [.st, .int i] Q Z :=
  ⟨rfl, i, rfl, h2, h5, fun a ta e => q a ta⟩
theorem odd_it {A : Adr} {L : List D} {Q : D → Prop} {Z : Addr → Prop} (h1 : L ≠ []) (h2 : L.length ≤ 1000) (hL : ∀ d ∈ L, thing d = true ∧ isSize d = false) (q : ∀ d, thing d = true → isSize d = false → Q d) : pures [.st, .lst L] = true ∧ sp_law_pick A [.st, .lst L] Q Z := by
  have hp : pures L = true := pures_of fun d hd => okT_pure (thing_okT (hL d hd).1)
  refine ⟨?_, L, rfl, h1, h2, hp, fun d hd => q d (hL d hd).1 (hL d hd).2⟩
  show (true && (pures L && true)) = true
  rw [hp]
  rfl
theorem known_it {A : Adr} {x : D} {b : List Int} {Q : D → Prop} {Z : Addr → Prop} (tx : thing x = true) (tb : tOk b = true) (q : Q (.bl true)) : pures [x, tI b] = true ∧ sp_law_known A [x, tI b] Q Z :=
  ⟨by rw [pures_all]; simp [pure_tI, okT_pure (thing_okT tx)], x, b, rfl, tx, tb, q⟩
theorem draw_it {A : Adr} {m : Int} {Q : D → Prop} {Z : Addr → Prop} (h0 : 0 < m) (h1 : m < 1000000000000000000000000000000000000000000) (q : ∀ r : Nat, (r : Int) < m → Q (.int r)) : sp_law_draw A [.st, .int m] Q Z :=
  ⟨m, rfl, h0, h1, fun r r0 r1 => by
    have := q r.toNat (by omega)
    rw [Int.toNat_of_nonneg r0] at this
    exact this⟩
end TC

set_option Elab.async false
set_option linter.all false
set_option maxRecDepth 100000
set_option maxHeartbeats 4000000
/-! All turns, one by one. -/
namespace TC
open PySem PySem.Spec PyProof.Rows L2
def insAll (x : Int) : List Int → List (List Int)
  | [] => [[x]]
  | y :: ys => (x :: y :: ys) :: (insAll x ys).map (y :: ·)
def permsOf : List Int → List (List Int)
  | [] => [[]]
  | x :: xs => (permsOf xs).flatMap (insAll x)
theorem mem_insAll (x : Int) : ∀ s t : List Int, s ++ x :: t ∈ insAll x (s ++ t)
  | [], [] => List.mem_cons_self ..
  | [], _ :: _ => List.mem_cons_self ..
  | y :: s, t => List.mem_cons_of_mem _ (List.mem_map.mpr ⟨_, mem_insAll x s t, rfl⟩)
theorem mem_perms : ∀ {xs l : List Int}, l.Perm xs → l ∈ permsOf xs
  | [], l, h => by
    rw [List.Perm.eq_nil h]
    exact List.mem_cons_self ..
  | x :: xs, l, h => by
    have hx : x ∈ l := h.symm.subset (List.mem_cons_self ..)
    obtain ⟨s, t, rfl⟩ := List.append_of_mem hx
    have h2 : (s ++ t).Perm xs := List.Perm.cons_inv (List.perm_middle.symm.trans h)
    exact List.mem_flatMap.mpr ⟨_, mem_perms h2, mem_insAll x s t⟩
def allT : List (List Int) := permsOf (rgL 2) ++ permsOf (rgL 3) ++ permsOf (rgL 4) ++ permsOf (rgL 5)
theorem mem_allT {a : List Int} (h : tOk a = true) : a ∈ allT := by
  have p := tOk_perm h
  obtain ⟨h2, h5⟩ := (tOk_iff.mp h).1
  unfold allT
  rw [List.mem_append, List.mem_append, List.mem_append]
  have : a.length = 2 ∨ a.length = 3 ∨ a.length = 4 ∨ a.length = 5 := by omega
  rcases this with e | e | e | e <;> rw [e] at p
  · exact .inl (.inl (.inl (mem_perms p.symm)))
  · exact .inl (.inl (.inr (mem_perms p.symm)))
  · exact .inl (.inr (mem_perms p.symm))
  · exact .inr (mem_perms p.symm)
def chk (a : List Int) : Bool :=
  decide (1 ≤ ordL a ∧ ordL a ≤ 6) && decide (powL a (ordL a) = rgL a.length) && ((List.range (ordL a)).all fun k => decide (k = 0) || !decide (powL a k = rgL a.length)) &&
  cycOk (cycL a) a.length && rounds (cycL a) (ordL a) && ((List.range (ordL a)).all fun m => decide (m = 0) || !rounds (cycL a) m) &&
  decide (signL a = 1 - 2 * ((((cycL a).filter fun r => decide (r.length % 2 = 0)).length : Int) % 2)) &&
  ((List.range (ordL a)).all fun m => decide (ledL (cycL a) a.length m = powL a m)) &&
  decide (powL a (ordL a - 1) = backL a) && decide (signL (backL a) = signL a) && decide (signL a * signL a = 1)
theorem chk_all : allT.all chk = true := by decide +kernel
structure Known (a : List Int) : Prop where
  pos : 1 ≤ ordL a ∧ ordL a ≤ 6
  all : powL a (ordL a) = rgL a.length
  ok : cycOk (cycL a) a.length = true
  rnd : rounds (cycL a) (ordL a) = true
  least : ∀ m, 1 ≤ m → m < ordL a → rounds (cycL a) m = false
  first : ∀ m, 1 ≤ m → m < ordL a → powL a m ≠ rgL a.length
  sgn : signL a = 1 - 2 * ((((cycL a).filter fun r => decide (r.length % 2 = 0)).length : Int) % 2)
  led : ∀ m, m < ordL a → ledL (cycL a) a.length m = powL a m
  back : powL a (ordL a - 1) = backL a
  sback : signL (backL a) = signL a
  sq : signL a * signL a = 1
theorem known {a : List Int} (h : tOk a = true) : Known a := by
  have c := List.all_eq_true.mp chk_all a (mem_allT h)
  unfold chk at c
  simp only [Bool.and_eq_true, decide_eq_true_eq, List.all_eq_true, List.mem_range, Bool.or_eq_true, Bool.not_eq_true', decide_eq_false_iff_not] at c
  obtain ⟨⟨⟨⟨⟨⟨⟨⟨⟨⟨c1, c2⟩, c3⟩, c4⟩, c5⟩, c6⟩, c7⟩, c8⟩, c9⟩, c10⟩, c11⟩ := c
  exact ⟨c1, c2, c4, c5, fun m h1 h2 => (c6 m h2).resolve_left (by omega), fun m h1 h2 => (c3 m h2).resolve_left (by omega), c7, c8, c9, c10, c11⟩
/-! ### powers -/
theorem len_pow (a : List Int) : ∀ k, (powL a k).length = a.length
  | 0 => rgL_len _
  | k + 1 => len_put _ _
theorem tOk_pow {a : List Int} (h : tOk a = true) : ∀ k, tOk (powL a k) = true
  | 0 => tOk_rg (tOk_iff.mp h).1.1 (tOk_iff.mp h).1.2
  | k + 1 => tOk_put (tOk_pow h k) h (len_pow a k)
theorem inB {a b : List Int} (ha : tOk a = true) (e : b.length = a.length) : ∀ k ∈ a, 0 ≤ k ∧ k < b.length := fun k hk => by
  rw [e]
  exact tOk_mem ha hk
theorem pow_add {a : List Int} (h : tOk a = true) (i : Nat) : ∀ j, putL (powL a i) (powL a j) = powL a (i + j)
  | 0 => by
    show putL (powL a i) (rgL a.length) = _
    rw [← len_pow a i, put_rg]
    rfl
  | j + 1 => by
    show putL (powL a i) (putL (powL a j) a) = putL (powL a (i + j)) a
    rw [← put_assoc (inB h (len_pow a j)), pow_add h i j]
theorem pow_round {a : List Int} (h : tOk a = true) (r : Nat) : ∀ q, powL a (r + ordL a * q) = powL a r
  | 0 => rfl
  | q + 1 => by
    have e : r + ordL a * (q + 1) = (r + ordL a * q) + ordL a := by rw [Nat.mul_succ, Nat.add_assoc]
    rw [e, ← pow_add h, (known h).all, ← len_pow a (r + ordL a * q), put_rg, pow_round h r q]
theorem pow_mod {a : List Int} (h : tOk a = true) (k : Nat) : powL a (k % ordL a) = powL a k := by
  have := pow_round h (k % ordL a) (k / ordL a)
  rw [Nat.mod_add_div] at this
  exact this.symm
/-! ### an exchange of neighbours turns the sign about -/
def swapL (n i : Nat) : List Int := (rgL n).map fun k => if k = (i : Int) then k + 1 else if k = (i : Int) + 1 then k - 1 else k
def wprod (n : Nat) : List Nat → List Int
  | [] => rgL n
  | i :: w => putL (wprod n w) (swapL n i)
def wordL (n : Nat) : Nat → List Int → List Nat
  | 0, _ => []
  | f + 1, b => match (List.range (n - 1)).find? fun i => decide (b.getD (i + 1) 0 < b.getD i 0) with
    | some i => i :: wordL n f (putL b (swapL n i))
    | none => []
def chkS (a : List Int) : Bool := decide (wprod a.length (wordL a.length 10 a) = a) && ((wordL a.length 10 a).all fun i => decide (i + 1 < a.length)) && (List.range (a.length - 1)).all fun i => decide (signL (putL a (swapL a.length i)) = - signL a)
theorem chkS_all : allT.all chkS = true := by decide +kernel
theorem swap_all : ([2, 3, 4, 5].all fun n => decide (signL (rgL n) = 1) && (List.range (n - 1)).all fun i => tOk (swapL n i) && decide ((swapL n i).length = n)) = true := by decide +kernel
theorem n_in {n : Nat} (h2 : 2 ≤ n) (h5 : n ≤ 5) : n ∈ [2, 3, 4, 5] := by
  have : n = 2 ∨ n = 3 ∨ n = 4 ∨ n = 5 := by omega
  rcases this with rfl | rfl | rfl | rfl <;> decide
theorem swap_ok {n i : Nat} (h2 : 2 ≤ n) (h5 : n ≤ 5) (hi : i + 1 < n) : tOk (swapL n i) = true ∧ (swapL n i).length = n := by
  have := List.all_eq_true.mp swap_all n (n_in h2 h5)
  simp only [Bool.and_eq_true, decide_eq_true_eq, List.all_eq_true, List.mem_range] at this
  exact this.2 i (by omega)
theorem sgn_rg {n : Nat} (h2 : 2 ≤ n) (h5 : n ≤ 5) : signL (rgL n) = 1 := by
  have := List.all_eq_true.mp swap_all n (n_in h2 h5)
  simp only [Bool.and_eq_true, decide_eq_true_eq, List.all_eq_true, List.mem_range] at this
  exact this.1
theorem sgn_swap {a : List Int} (h : tOk a = true) {i : Nat} (hi : i + 1 < a.length) : signL (putL a (swapL a.length i)) = - signL a := by
  have c := List.all_eq_true.mp chkS_all a (mem_allT h)
  unfold chkS at c
  simp only [Bool.and_eq_true, decide_eq_true_eq, List.all_eq_true, List.mem_range] at c
  exact c.2 i (by omega)
theorem wprod_ok {n : Nat} (h2 : 2 ≤ n) (h5 : n ≤ 5) : ∀ w : List Nat, (∀ i ∈ w, i + 1 < n) → tOk (wprod n w) = true ∧ (wprod n w).length = n
  | [], _ => ⟨tOk_rg h2 h5, rgL_len n⟩
  | i :: w, h => by
    obtain ⟨t1, l1⟩ := wprod_ok h2 h5 w fun j hj => h j (List.mem_cons_of_mem _ hj)
    obtain ⟨t2, l2⟩ := swap_ok h2 h5 (h i (List.mem_cons_self ..))
    exact ⟨tOk_put t1 t2 (l1.trans l2.symm), (len_put _ _).trans l2⟩
def par (w : List Nat) : Int := w.foldr (fun _ t => -t) 1
theorem sgn_wprod {a : List Int} (h : tOk a = true) : ∀ w : List Nat, (∀ i ∈ w, i + 1 < a.length) → signL (putL a (wprod a.length w)) = par w * signL a
  | [], _ => by
    show signL (putL a (rgL a.length)) = 1 * signL a
    rw [put_rg, Int.one_mul]
  | i :: w, hw => by
    have hn := (tOk_iff.mp h).1
    have hi := hw i (List.mem_cons_self ..)
    have hw' := fun j hj => hw j (List.mem_cons_of_mem i hj)
    obtain ⟨t1, l1⟩ := wprod_ok hn.1 hn.2 w hw'
    obtain ⟨t2, l2⟩ := swap_ok hn.1 hn.2 hi
    show signL (putL a (putL (wprod a.length w) (swapL a.length i))) = -(par w) * signL a
    rw [← put_assoc (inB t2 (l1.trans l2.symm))]
    have l3 : (putL a (wprod a.length w)).length = a.length := (len_put _ _).trans l1
    have := sgn_swap (tOk_put h t1 l1.symm) (i := i) (by rw [l3]; exact hi)
    rw [l3] at this
    rw [this, sgn_wprod h w hw', Int.neg_mul]
theorem sgn_put {a b : List Int} (ha : tOk a = true) (hb : tOk b = true) (e : a.length = b.length) : signL (putL a b) = signL a * signL b := by
  have hn := (tOk_iff.mp hb).1
  have c := List.all_eq_true.mp chkS_all b (mem_allT hb)
  unfold chkS at c
  simp only [Bool.and_eq_true, decide_eq_true_eq, List.all_eq_true, List.mem_range] at c
  obtain ⟨⟨c1, c2⟩, _⟩ := c
  have s1 := sgn_wprod ha (wordL b.length 10 b) (by rw [e]; exact c2)
  have s2 := sgn_wprod (tOk_rg hn.1 hn.2) (wordL b.length 10 b) (by rw [rgL_len]; exact c2)
  rw [rgL_len, c1, sgn_rg hn.1 hn.2, rg_put (fun k hk => tOk_mem hb hk), Int.mul_one] at s2
  rw [e, c1] at s1
  rw [s1, s2, Int.mul_comm]
/-! ### put about -/
def aboutL (b a : List Int) : List Int := putL (putL b a) (backL b)
theorem about_pow {a b : List Int} (ha : tOk a = true) (hb : tOk b = true) (e : a.length = b.length) : ∀ k, powL (aboutL b a) k = putL (putL b (powL a k)) (backL b)
  | 0 => by
    have el : (aboutL b a).length = b.length := (len_put _ _).trans (len_back b)
    show rgL (aboutL b a).length = putL (putL b (rgL a.length)) (backL b)
    rw [el, e, put_rg, put_back hb]
  | k + 1 => by
    have tb := tOk_back hb
    have lb := len_back b
    have lp := len_pow a k
    have tp := tOk_pow ha k
    have l1 : (putL b (powL a k)).length = b.length := (len_put _ _).trans (lp.trans e)
    show putL (powL (aboutL b a) k) (aboutL b a) = putL (putL b (putL (powL a k) a)) (backL b)
    rw [about_pow ha hb e k]
    unfold aboutL
    have l2 : (putL b a).length = b.length := (len_put _ _).trans e
    rw [← put_assoc (a := putL (putL b (powL a k)) (backL b)) (inB tb (l2.trans lb.symm))]
    congr 1
    rw [put_assoc (inB (tOk_put hb ha e.symm) (by rw [lb, l2])), ← put_assoc (a := backL b) (inB ha e.symm), back_put hb, ← e, rg_put (inB ha rfl |> fun h k hk => h k hk), put_assoc (inB ha lp)]
theorem rg_len_eq {a b : List Int} (h : a.length = b.length) : rgL a.length = rgL b.length := by rw [h]
theorem about_one {b p : List Int} (hb : tOk b = true) (hp : tOk p = true) (e : p.length = b.length) (h : putL (putL b p) (backL b) = rgL b.length) : p = rgL p.length := by
  have tb := tOk_back hb
  have lb := len_back b
  have lp : (putL b p).length = b.length := (len_put _ _).trans e
  have h1 : putL (putL (putL b p) (backL b)) b = putL (rgL b.length) b := by rw [h]
  rw [put_assoc (inB hb lb), back_put hb, rg_put (inB hb rfl), ← lp, put_rg] at h1
  have h2 : putL (backL b) (putL b p) = putL (backL b) b := by rw [h1]
  rw [← put_assoc (inB hp e.symm), back_put hb, rg_put (fun k hk => by rw [← e]; exact tOk_mem hp hk)] at h2
  rw [h2, rgL_len]
theorem about_ord {a b : List Int} (ha : tOk a = true) (hb : tOk b = true) (e : a.length = b.length) : ordL (aboutL b a) = ordL a := by
  have el : (aboutL b a).length = b.length := (len_put _ _).trans (len_back b)
  have : (fun k => decide (powL (aboutL b a) k = rgL (aboutL b a).length)) = fun k => decide (powL a k = rgL a.length) := by
    funext k
    rw [about_pow ha hb e, el]
    by_cases h : powL a k = rgL a.length
    · rw [decide_eq_true h, h, e, put_rg, put_back hb, decide_eq_true rfl]
    · rw [decide_eq_false h, decide_eq_false]
      intro q
      have := about_one hb (tOk_pow ha k) ((len_pow a k).trans e) q
      rw [len_pow] at this
      exact h this
  unfold ordL
  rw [this]
/-! ### led on -/
theorem led_mod {row : List Int} {n m : Int} (h : ∀ k : Int, (k + n).fmod row.length = (k + m).fmod row.length) : ∀ ks f, ledIn row n ks f = ledIn row m ks f
  | [], f => rfl
  | k :: ks, f => by
    show ledIn row n ks _ = ledIn row m ks _
    rw [h, led_mod h]
theorem led_out {n m : Int} : ∀ (c : List (List Int)) f, (∀ r ∈ c, ∀ k : Int, (k + n).fmod r.length = (k + m).fmod r.length) → ledOut n c f = ledOut m c f
  | [], f, _ => rfl
  | r :: c, f, h => by
    show ledOut n c (ledIn r n _ f) = ledOut m c (ledIn r m _ f)
    rw [led_mod (h r (List.mem_cons_self ..)), led_out c _ fun r' hr => h r' (List.mem_cons_of_mem _ hr)]
theorem led_all {a : List Int} (h : tOk a = true) (n : Int) : powL a (n.fmod (ordL a)).toNat = ledL (cycL a) a.length n := by
  have k := known h
  have hp : (0 : Int) < ordL a := by have := k.pos.1; omega
  obtain ⟨m0, m1⟩ := fmod_lt (a := n) hp
  have e := k.led (n.fmod (ordL a)).toNat (by omega)
  rw [← e, Int.toNat_of_nonneg m0]
  unfold ledL
  refine led_out _ _ fun r hr j => ?_
  have hr2 := List.all_eq_true.mp k.rnd r hr
  have hd : ordL a % r.length = 0 := of_decide_eq_true hr2
  have hd2 : ((r.length : Nat) : Int) ∣ ((ordL a : Nat) : Int) := Int.natCast_dvd_natCast.mpr (Nat.dvd_of_mod_eq_zero hd)
  rw [Int.fmod_eq_emod_of_nonneg _ (by omega), Int.fmod_eq_emod_of_nonneg _ (by omega), Int.fmod_eq_emod_of_nonneg _ (by omega)]
  rw [Int.add_emod, Int.emod_emod_of_dvd _ hd2, ← Int.add_emod]
end TC

set_option Elab.async false
set_option linter.all false
set_option maxRecDepth 100000
set_option maxHeartbeats 2000000
/-! Groups of turns: what comes of some of them. -/
namespace TC
open PySem PySem.Spec PyProof.Rows L2
variable {n : Nat} {gs hs ts : List (List Int)} {t u g : List Int}
theorem Tn.put (a : Tn n t) (b : Tn n u) : Tn n (putL t u) := ⟨tOk_put a.1 b.1 (a.2.trans b.2.symm), (len_put t u).trans b.2⟩
theorem Tn.bk (a : Tn n t) : Tn n (backL t) := ⟨tOk_back a.1, (len_back t).trans a.2⟩
theorem Tn.e (h2 : 2 ≤ n) (h5 : n ≤ 5) : Tn n (rgL n) := ⟨tOk_rg h2 h5, rgL_len n⟩
theorem Tn.rng (a : Tn n t) : ∀ k ∈ t, 0 ≤ k ∧ k < n := fun k hk => by
  have := tOk_mem a.1 hk
  rw [a.2] at this
  exact this
theorem Tn.bd (a : Tn n t) : 2 ≤ n ∧ n ≤ 5 := by
  have := (tOk_iff.mp a.1).1
  rw [a.2] at this
  exact this
theorem Tn.asc (b : Tn n t) (c : Tn n u) : putL (putL g t) u = putL g (putL t u) := put_assoc fun k hk => by rw [b.2]; exact c.rng k hk
theorem Tn.pe (a : Tn n t) : putL t (rgL n) = t := by rw [← a.2]; exact put_rg t
theorem Tn.ep (a : Tn n t) : putL (rgL n) t = t := rg_put a.rng
theorem Cl.tn (h2 : 2 ≤ n) (h5 : n ≤ 5) (hg : ∀ g ∈ gs, Tn n g) (h : Cl n gs t) : Tn n t := by
  induction h with
  | e => exact Tn.e h2 h5
  | s _ hm ih => exact ih.put (hg _ hm)
theorem Cl.gen (hg : Tn n g) (h : g ∈ gs) : Cl n gs g := by
  have := Cl.s (n := n) (gs := gs) .e h
  rw [hg.ep] at this
  exact this
theorem Cl.mul (hg : ∀ g ∈ gs, Tn n g) (a : Cl n gs t) (ta : Tn n t) (b : Cl n gs u) : Cl n gs (putL t u) := by
  have hb := ta.bd
  induction b with
  | e =>
    rw [ta.pe]
    exact a
  | s b' hm ih =>
    rw [← (Cl.tn hb.1 hb.2 hg b').asc (hg _ hm)]
    exact .s ih hm
theorem Cl.sub (h2 : 2 ≤ n) (h5 : n ≤ 5) (hh : ∀ g ∈ hs, Tn n g) (h : ∀ g ∈ gs, Cl n hs g) (a : Cl n gs t) : Cl n hs t := by
  induction a with
  | e => exact .e
  | s _ hm ih => exact Cl.mul hh ih (Cl.tn h2 h5 hh ih) (h _ hm)
theorem Cl.pow (hg : ∀ g ∈ gs, Tn n g) (tt : Tn n t) (a : Cl n gs t) : ∀ k, Cl n gs (powL t k)
  | 0 => by
    show Cl n gs (rgL t.length)
    rw [tt.2]
    exact .e
  | k + 1 => by
    have ih := Cl.pow hg tt a k
    have b := tt.bd
    exact Cl.mul hg ih (Cl.tn b.1 b.2 hg ih) a
theorem Cl.bk (hg : ∀ g ∈ gs, Tn n g) (tt : Tn n t) (a : Cl n gs t) : Cl n gs (backL t) := by
  rw [← (known tt.1).back]
  exact Cl.pow hg tt a _
theorem lets_tn (h : ∀ t ∈ ts, Tn n t) : ∀ g ∈ lets ts, Tn n g := fun g hg => by
  unfold lets at hg
  rcases List.mem_append.mp hg with hg | hg
  · exact h g hg
  · obtain ⟨t, ht, rfl⟩ := List.mem_map.mp hg
    exact (h t ht).bk
theorem Cl.lets (h2 : 2 ≤ n) (h5 : n ≤ 5) (h : ∀ t ∈ ts, Tn n t) : Cl n (lets ts) t ↔ Cl n ts t := by
  constructor
  · refine Cl.sub h2 h5 h fun g hg => ?_
    unfold TC.lets at hg
    rcases List.mem_append.mp hg with hg | hg
    · exact Cl.gen (h g hg) hg
    · obtain ⟨t, ht, rfl⟩ := List.mem_map.mp hg
      exact Cl.bk h (h t ht) (Cl.gen (h t ht) ht)
  · refine Cl.sub h2 h5 (lets_tn h) fun g hg => Cl.gen (h g hg) ?_
    unfold TC.lets
    exact List.mem_append_left _ hg
/-- what has plain and goes on with each gen is all that comes -/
theorem Cl.all {P : List Int → Prop} (e : P (rgL n)) (s : ∀ t g, P t → g ∈ gs → P (putL t g)) (a : Cl n gs t) : P t := by
  induction a with
  | e => exact e
  | s _ hm ih => exact s _ _ ih hm
/-! ### rows in order -/
theorem lex_total : ∀ x y : List Int, HT.lexLt x y = false → HT.lexLt y x = false → x = y
  | [], [], _, _ => rfl
  | [], _ :: _, h, _ => by cases h
  | _ :: _, [], _, h => by cases h
  | x :: xs, y :: ys, h1, h2 => by
    rw [HT.lexLt_cons] at h1 h2
    by_cases e : x = y
    · rw [if_pos e] at h1
      rw [if_pos e.symm] at h2
      rw [e, lex_total xs ys h1 h2]
    · rw [if_neg e] at h1
      rw [if_neg (Ne.symm e)] at h2
      have a1 := of_decide_eq_false h1
      have a2 := of_decide_eq_false h2
      omega
theorem ltL_irr (x : List Int) : ¬ ltL x x := fun h => by
  have := lex_asym x x h
  unfold ltL at h
  rw [h] at this
  cases this
theorem ltL_nodup {g : List (List Int)} (h : g.Pairwise ltL) : g.Nodup := h.imp fun h e => by subst e; exact ltL_irr _ h
theorem ltL_sorted {g : List (List Int)} (hn : g.Nodup) (h : g.Pairwise (fun a b => HT.lexLt b a = false)) : g.Pairwise ltL := by
  have := hn.and h
  refine this.imp fun {a b} h => ?_
  unfold ltL
  cases e : HT.lexLt a b with
  | true => rfl
  | false => exact absurd (lex_total a b e h.2) h.1
theorem ltL_uniq {g h : List (List Int)} (hg : g.Pairwise ltL) (hh : h.Pairwise ltL) (e : ∀ t, t ∈ g ↔ t ∈ h) : g = h := by
  refine List.Perm.eq_of_pairwise (le := ltL) (fun a b _ _ h1 h2 => ?_) hg hh ((List.perm_ext_iff_of_nodup (ltL_nodup hg) (ltL_nodup hh)).mpr e)
  have := lex_asym a b h1
  unfold ltL at h2
  rw [this] at h2
  cases h2
theorem GrpOk.uniq {a b : List (List Int)} (ha : GrpOk n ts a) (hb : GrpOk n ts b) : a = b := ltL_uniq ha.1 hb.1 fun t => (ha.2 t).trans (hb.2 t).symm
theorem GrpOk.of {ss a : List (List Int)} (ha : GrpOk n ts a) (h : ∀ t, Cl n ts t ↔ Cl n ss t) : GrpOk n ss a := ⟨ha.1, fun t => (ha.2 t).trans (h t)⟩
theorem e_least_all : (allT.all fun t => !HT.lexLt t (rgL t.length)) = true := by decide +kernel
theorem e_least (h : Tn n t) : HT.lexLt t (rgL n) = false := by
  have := List.all_eq_true.mp e_least_all t (mem_allT h.1)
  rw [h.2] at this
  simpa using this
theorem len_sub : ∀ {a b : List (List Int)}, a.Nodup → (∀ x ∈ a, x ∈ b) → a.length ≤ b.length
  | [], b, _, _ => Nat.zero_le _
  | x :: xs, b, hn, hs => by
    have hb := hs x (List.mem_cons_self ..)
    have p := List.perm_cons_erase hb
    have hn' := List.nodup_cons.mp hn
    have := len_sub (b := b.erase x) hn'.2 fun y hy => (List.mem_erase_of_ne (fun e : y = x => hn'.1 (by rw [← e]; exact hy))).mpr (hs y (List.mem_cons_of_mem _ hy))
    have l := p.length_eq
    simp only [List.length_cons] at l ⊢
    omega
theorem allT_len : allT.length = 152 := by decide +kernel
theorem tn_len {a : List (List Int)} (hn : a.Nodup) (h : ∀ x ∈ a, Tn n x) : a.length ≤ 152 := by
  rw [← allT_len]
  exact len_sub hn fun x hx => mem_allT (h x hx).1
/-! ### == of rows of turns -/
theorem py_rows : ∀ ks : List (List Int), pys (ks.map tI) = ks.map fun k => PyData.tuple (k.map PyData.int)
  | [] => rfl
  | k :: ks => by
    show PyData.tuple (pys (k.map D.int)) :: pys (ks.map tI) = _
    rw [py_rows ks, py_ints]
    rfl
theorem isPy_rows : ∀ ks : List (List Int), isPys (ks.map tI) = true
  | [] => rfl
  | k :: ks => by
    show (isPys (k.map D.int) && isPys (ks.map tI)) = true
    rw [isPy_ints, isPy_rows ks]
    rfl
theorem canLay_rows : ∀ ks : List (List Int), PyData.canLayAll0 (ks.map fun k => PyData.tuple (k.map PyData.int)) = true
  | [] => rfl
  | k :: r => by simp [PyData.canLayAll0, PyData.canLay0, canLay_ints, canLay_rows r]
theorem depth_rows : ∀ ks : List (List Int), PyData.depthAll (ks.map fun k => PyData.tuple (k.map PyData.int)) ≤ 1
  | [] => Nat.zero_le _
  | k :: r => by
    have := depth_rows r
    simp only [List.map_cons, PyData.depthAll, PyData.depth, depth_ints]
    omega
theorem eqvAll_rows : ∀ as bs : List (List Int), PyData.eqvAll (as.map fun k => PyData.tuple (k.map PyData.int)) (bs.map fun k => PyData.tuple (k.map PyData.int)) = decide (as = bs)
  | [], [] => by simp [PyData.eqvAll]
  | [], _ :: _ => by simp [PyData.eqvAll]
  | _ :: _, [] => by simp [PyData.eqvAll]
  | n :: ns, m :: ms => by
    simp only [List.map_cons, PyData.eqvAll, eqvAll_rows ns ms, PyData.eqv, eqvAll_ints]
    by_cases h : n = m <;> by_cases h' : ns = ms <;> simp [h, h']
theorem eqOk_rowsT (ks : List (List Int)) : eqOk (.tup (ks.map tI)) = true := by
  show (isPys (ks.map tI) && SeqAt.shaped (.tuple (pys (ks.map tI)))) = true
  rw [isPy_rows, py_rows]
  have := depth_rows ks
  simp [SeqAt.shaped, PyData.canLay0, PyData.depth, canLay_rows]
  omega
theorem eqOk_rowsL (ks : List (List Int)) : eqOk (.lst (ks.map tI)) = true := by
  show (isPys (ks.map tI) && SeqAt.shaped (.list (pys (ks.map tI)))) = true
  rw [isPy_rows, py_rows]
  have := depth_rows ks
  simp [SeqAt.shaped, PyData.canLay0, PyData.depth, canLay_rows]
  omega
theorem deq_rowsT (as bs : List (List Int)) : deq (.tup (as.map tI)) (.tup (bs.map tI)) = decide (as = bs) := by
  show PyData.eqv (.tuple (pys (as.map tI))) (.tuple (pys (bs.map tI))) = _
  rw [py_rows, py_rows, PyData.eqv, eqvAll_rows]
theorem deq_rowsL (as bs : List (List Int)) : deq (.lst (as.map tI)) (.lst (bs.map tI)) = decide (as = bs) := by
  show PyData.eqv (.list (pys (as.map tI))) (.list (pys (bs.map tI))) = _
  rw [py_rows, py_rows, PyData.eqv, eqvAll_rows]
theorem any_rows (g : List (List Int)) (t : List Int) : ((g.map tI).any fun z => deq z (tI t)) = decide (t ∈ g) := by
  induction g with
  | nil => rfl
  | cons x g ih =>
    rw [List.map_cons, List.any_cons, ih, deq_tI]
    by_cases e : x = t
    · subst e; simp
    · have : t ≠ x := fun h => e h.symm
      simp [e, this]
theorem pures_rows (ks : List (List Int)) : pures (ks.map tI) = true := pures_of fun d h => by
  obtain ⟨k, _, rfl⟩ := List.mem_map.mp h
  exact pure_tI k
theorem tI_inj {a b : List Int} (h : tI a = tI b) : a = b := by
  have := congrArg (fun x => match x with | D.tup ds => nums ds | _ => none) h
  exact Option.some.inj ((nums_ints a).symm.trans (this.trans (nums_ints b)))
theorem rows_inj : ∀ {as bs : List (List Int)}, as.map tI = bs.map tI → as = bs
  | [], [], _ => rfl
  | [], _ :: _, h => by cases h
  | _ :: _, [], h => by cases h
  | a :: as, b :: bs, h => by
    rw [List.map_cons, List.map_cons] at h
    injection h with h1 h2
    rw [tI_inj h1, rows_inj h2]
theorem turns_rows : ∀ {xs : List D}, (∀ d ∈ xs, sizeOf d ≠ 0) → ∃ ts : List (List Int), xs = ts.map tI ∧ ∀ t ∈ ts, tOk t = true
  | [], _ => ⟨[], rfl, fun t h => nomatch h⟩
  | x :: xs, h => by
    obtain ⟨ts, rfl, h2⟩ := turns_rows (xs := xs) fun d hd => h d (List.mem_cons_of_mem _ hd)
    obtain ⟨a, rfl, ha, _⟩ := sizeOf_turn (h x (List.mem_cons_self ..))
    refine ⟨a :: ts, rfl, fun t ht => ?_⟩
    rcases List.mem_cons.mp ht with rfl | ht
    · exact ha
    · exact h2 t ht
end TC

set_option Elab.async false
set_option linter.all false
set_option maxRecDepth 100000
set_option maxHeartbeats 2000000
/-! Letters, rows, words. -/
namespace TC
open PySem PySem.Spec PyProof.Rows L2
variable {n : Nat} {ts : List (List Int)} {t g : List Int}
theorem getK_some : ∀ {ks : List (List Int)} {ds : List D}, ks.length = ds.length → (getK ks ds t).isSome = ks.contains t
  | [], [], _ => rfl
  | [], _ :: _, h => by simp at h
  | _ :: _, [], h => by simp at h
  | x :: ks, d :: ds, h => by
    show (if x = t then some d else getK ks ds t).isSome = _
    rw [List.contains_cons]
    by_cases e : x = t
    · rw [if_pos e, e]; simp
    · rw [if_neg e, getK_some (by simpa using h)]
      have : (t == x) = false := beq_eq_false_iff_ne.mpr fun h => e h.symm
      rw [this, Bool.false_or]
/-! ### letters -/
theorem setD_mem {a : List (List Int) × List D} {d : D} {x : List Int} : x ∈ (setD a t d).1 ↔ x ∈ a.1 ∨ x = t := by
  unfold setD
  split
  · rename_i h
    constructor
    · exact .inl
    · rintro (h' | rfl)
      · exact h'
      · simpa using h
  · show x ∈ a.1 ++ [t] ↔ _
    rw [List.mem_append, List.mem_singleton]
theorem setD_len {a : List (List Int) × List D} {d : D} (h : a.1.length = a.2.length) : (setD a t d).1.length = (setD a t d).2.length ∧ (setD a t d).1.length ≤ a.1.length + 1 := by
  unfold setD
  split
  · exact ⟨h, by omega⟩
  · simp [h]
theorem setD_pure {a : List (List Int) × List D} {d : D} (h : pures a.2 = true) (hd : d.pure = true) : pures (setD a t d).2 = true := by
  unfold setD
  split
  · exact h
  · exact pures_append h (by show (d.pure && true) = true; rw [hd]; rfl)
theorem lettersF_ok : ∀ (ts : List (List Int)) (i : Nat) (a : List (List Int) × List D), a.1.length = a.2.length → pures a.2 = true →
    (lettersF i ts a).1.length = (lettersF i ts a).2.length ∧ pures (lettersF i ts a).2 = true ∧ (∀ x, x ∈ (lettersF i ts a).1 ↔ x ∈ a.1 ∨ x ∈ lets ts) ∧ (lettersF i ts a).1.length ≤ a.1.length + 2 * ts.length
  | [], i, a, h, p => ⟨h, p, fun x => by simp [lettersF, lets], by show a.1.length ≤ _; omega⟩
  | t :: ts, i, a, h, p => by
    have l1 := setD_len (t := backL t) (d := .tup [.int (i : Int), .int (-1)]) h
    have l2 := setD_len (t := t) (d := .tup [.int (i : Int), .int 1]) l1.1
    have p1 := setD_pure (t := backL t) (d := .tup [.int (i : Int), .int (-1)]) p rfl
    have p2 := setD_pure (t := t) (d := .tup [.int (i : Int), .int 1]) p1 rfl
    obtain ⟨a1, a2, a3, a4⟩ := lettersF_ok ts (i + 1) _ l2.1 p2
    refine ⟨a1, a2, fun x => ?_, ?_⟩
    · show x ∈ (lettersF (i + 1) ts _).1 ↔ _
      rw [a3, setD_mem, setD_mem]
      unfold lets
      simp only [List.map_cons, List.mem_append, List.mem_cons]
      constructor
      · rintro (((h | h) | h) | (h | h))
        · exact .inl h
        · exact .inr (.inr (.inl h))
        · exact .inr (.inl (.inl h))
        · exact .inr (.inl (.inr h))
        · exact .inr (.inr (.inr h))
      · rintro (h | ((h | h) | (h | h)))
        · exact .inl (.inl (.inl h))
        · exact .inl (.inr h)
        · exact .inr (.inl h)
        · exact .inl (.inl (.inr h))
        · exact .inr (.inr h)
    · show (lettersF (i + 1) ts _).1.length ≤ _
      simp only [List.length_cons]
      omega
def enR : Nat → List (List Int) → List (D × D)
  | _, [] => []
  | i, t :: ts => (.int (i : Int), tI t) :: enR (i + 1) ts
theorem enR_eq : ∀ (ts : List (List Int)) (i : Nat), ((List.range' i ts.length).map fun (j : Nat) => D.int (j : Int)).zip (ts.map tI) = enR i ts
  | [], _ => rfl
  | t :: ts, i => by
    rw [List.length_cons, List.range'_succ, List.map_cons, List.map_cons, List.zip_cons_cons, enR_eq ts (i + 1)]
    rfl
theorem enumD_rows (ts : List (List Int)) : enumD (ts.map tI) = enR 0 ts := by
  unfold enumD
  rw [List.length_map, List.range_eq_range', enR_eq]
/-! ### rows -/
theorem word_at : ∀ {ks : List (List Int)} {ws : List (List D)}, ws.length = ks.length → t ∈ ks → getK ks (wsD ws) t = some (.lst (ws.getD (ks.idxOf t) []))
  | [], _, _, h => by cases h
  | x :: ks, [], h, _ => by simp at h
  | x :: ks, w :: ws, h, hm => by
    show (if x = t then some (D.lst w) else getK ks (wsD ws) t) = _
    by_cases e : x = t
    · rw [if_pos e, e, List.idxOf_cons_self]
      rfl
    · have hm' : t ∈ ks := by
        rcases List.mem_cons.mp hm with h | h
        · exact absurd h.symm e
        · exact h
      rw [if_neg e, word_at (ks := ks) (ws := ws) (by simpa using h) hm', List.idxOf_cons, beq_eq_false_iff_ne.mpr e]
      rfl
theorem wordAt_mem {s : Wst} (t : List Int) : wordAt s t = [] ∨ wordAt s t ∈ s.ws := by
  unfold wordAt
  rw [List.getD_eq_getElem?_getD]
  cases h : s.ws[s.ks.idxOf t]? with
  | none => exact .inl rfl
  | some w => exact .inr (List.mem_of_getElem? h)
theorem wordAt_ok {s : Wst} (h : WstOk n s) (t : List Int) : (wordAt s t).length ≤ s.ks.length ∧ pures (wordAt s t) = true := by
  rcases wordAt_mem (s := s) t with e | e
  · rw [e]; exact ⟨Nat.zero_le _, rfl⟩
  · exact h.2.1 _ e
theorem WstOk.len {s : Wst} (h : WstOk n s) : s.ks.length ≤ 152 := tn_len h.2.2.1 h.2.2.2
theorem stepW_ok {s : Wst} {l : D} (h : WstOk n s) (ht : Tn n t) (hg : Tn n g) (hl : l.pure = true) : WstOk n (stepW t g l s) := by
  unfold stepW
  split
  · exact h
  · rename_i hc
    have w := wordAt_ok h t
    obtain ⟨h1, h2, h3, h4⟩ := h
    refine ⟨by simp [h1], fun x hx => ?_, ?_, fun x hx => ?_⟩
    · rcases List.mem_append.mp hx with hx | hx
      · have := h2 x hx
        exact ⟨by simp only [List.length_append, List.length_singleton]; omega, this.2⟩
      · rw [List.mem_singleton.mp hx]
        exact ⟨by simp only [List.length_append, List.length_singleton]; omega, pures_append w.2 (by show (l.pure && true) = true; rw [hl]; rfl)⟩
    · rw [List.nodup_append]
      refine ⟨h3, by simp, fun a ha b hb e => hc ?_⟩
      rw [List.mem_singleton.mp hb] at e
      rw [← e]
      simpa using ha
    · rcases List.mem_append.mp hx with hx | hx
      · exact h4 x hx
      · rw [List.mem_singleton.mp hx]
        exact ht.put hg
def ExtW (P : List Int → Prop) (s s' : Wst) : Prop := ∃ e, s'.ks = s.ks ++ e ∧ s'.fd = s.fd ++ e ∧ ∀ x ∈ e, P x
theorem ExtW.refl {P : List Int → Prop} (s : Wst) : ExtW P s s := ⟨[], by simp, by simp, fun x h => nomatch h⟩
theorem ExtW.trans {P : List Int → Prop} {a b c : Wst} (h : ExtW P a b) (h' : ExtW P b c) : ExtW P a c := by
  obtain ⟨e, e1, e2, e3⟩ := h
  obtain ⟨f, f1, f2, f3⟩ := h'
  refine ⟨e ++ f, by rw [f1, e1, List.append_assoc], by rw [f2, e2, List.append_assoc], fun x hx => ?_⟩
  rcases List.mem_append.mp hx with hx | hx
  · exact e3 x hx
  · exact f3 x hx
theorem ExtW.imp {P Q : List Int → Prop} {a b : Wst} (h : ExtW P a b) (k : ∀ x, P x → Q x) : ExtW Q a b := by
  obtain ⟨e, e1, e2, e3⟩ := h
  exact ⟨e, e1, e2, fun x hx => k x (e3 x hx)⟩
theorem ExtW.mem {P : List Int → Prop} {a b : Wst} (h : ExtW P a b) {x : List Int} (hx : x ∈ a.ks) : x ∈ b.ks := by
  obtain ⟨e, e1, _⟩ := h
  rw [e1]
  exact List.mem_append_left _ hx
theorem stepW_ext {s : Wst} {l : D} : ExtW (fun x => x = putL t g) s (stepW t g l s) ∧ putL t g ∈ (stepW t g l s).ks := by
  unfold stepW
  split
  · rename_i h
    exact ⟨.refl s, by simpa using h⟩
  · exact ⟨⟨[putL t g], rfl, rfl, fun x hx => List.mem_singleton.mp hx⟩, by simp⟩
theorem inF_all : ∀ (ls : List (List Int × D)) (s : Wst), WstOk n s → Tn n t → (∀ p ∈ ls, Tn n p.1 ∧ p.2.pure = true) →
    WstOk n (inF t ls s) ∧ ExtW (fun x => ∃ p ∈ ls, x = putL t p.1) s (inF t ls s) ∧ ∀ p ∈ ls, putL t p.1 ∈ (inF t ls s).ks
  | [], s, h, _, _ => ⟨h, .refl s, fun p hp => nomatch hp⟩
  | (g, l) :: r, s, h, ht, hp => by
    have p0 := hp _ (List.mem_cons_self ..)
    have h1 := stepW_ok h ht p0.1 p0.2
    obtain ⟨a1, a2, a3⟩ := inF_all r _ h1 ht fun p hp' => hp p (List.mem_cons_of_mem _ hp')
    have e := stepW_ext (s := s) (t := t) (g := g) (l := l)
    refine ⟨a1, (e.1.imp fun x hx => ⟨(g, l), List.mem_cons_self .., hx⟩).trans (a2.imp fun x ⟨p, hp, e⟩ => ⟨p, List.mem_cons_of_mem _ hp, e⟩), fun p hp' => ?_⟩
    rcases List.mem_cons.mp hp' with rfl | hp'
    · exact a2.mem e.2
    · exact a3 p hp'
theorem rowF_all {ls : List (List Int × D)} : ∀ (row : List (List Int)) (s : Wst), WstOk n s → (∀ t ∈ row, Tn n t) → (∀ p ∈ ls, Tn n p.1 ∧ p.2.pure = true) →
    WstOk n (rowF ls row s) ∧ ExtW (fun x => ∃ t ∈ row, ∃ p ∈ ls, x = putL t p.1) s (rowF ls row s) ∧ ∀ t ∈ row, ∀ p ∈ ls, putL t p.1 ∈ (rowF ls row s).ks
  | [], s, h, _, _ => ⟨h, .refl s, fun p hp => nomatch hp⟩
  | t :: r, s, h, ht, hp => by
    have t0 := ht t (List.mem_cons_self ..)
    obtain ⟨b1, b2, b3⟩ := inF_all ls s h t0 hp
    obtain ⟨a1, a2, a3⟩ := rowF_all r _ b1 (fun t' h' => ht t' (List.mem_cons_of_mem _ h')) hp
    refine ⟨a1, (b2.imp fun x ⟨p, hp, e⟩ => ⟨t, List.mem_cons_self .., p, hp, e⟩).trans (a2.imp fun x ⟨t', ht', p, hp, e⟩ => ⟨t', List.mem_cons_of_mem _ ht', p, hp, e⟩), fun t' h' p hp' => ?_⟩
    rcases List.mem_cons.mp h' with rfl | h'
    · exact a2.mem (b3 p hp')
    · exact a3 t' h' p hp'
/-! ### loops -/
theorem wForPML_go {k : Nat} {xs : List D} {i j : Nat} {body : DS} {P : Post} (I : List (D × D) → Gam → Mem → Prop) (at_ : ∀ r Γ μ, I r Γ μ → μ[k]? = some (.lst xs)) (fin : ∀ Γ μ, I [] Γ μ → P.nx Γ μ)
    (step : ∀ x r Γ μ, I (x :: r) Γ μ → (nx : Gam → Mem → Prop) → (∀ Γ' μ', I r Γ' μ' → nx Γ' μ') → body ((Γ.set i (some x.1)).set j (some x.2)) μ ⟨nx, P.rt, P.nx, nx, P.rz⟩) :
    ∀ (r : List (D × D)) (Γ : Gam) (μ : Mem), I r Γ μ → wForPML k xs i j body r Γ μ P
  | [], Γ, μ, h => ⟨at_ _ _ _ h, fin Γ μ h⟩
  | x :: r, Γ, μ, h => ⟨at_ _ _ _ h, step x r Γ μ h _ fun Γ' μ' h' => wForPML_go I at_ fin step r Γ' μ' h'⟩
theorem wForPL_go {i j : Nat} {body : DS} {P : Post} (I : List (D × D) → Gam → Mem → Prop) (fin : ∀ Γ μ, I [] Γ μ → P.nx Γ μ)
    (step : ∀ x r Γ μ, I (x :: r) Γ μ → (nx : Gam → Mem → Prop) → (∀ Γ' μ', I r Γ' μ' → nx Γ' μ') → body ((Γ.set i (some x.1)).set j (some x.2)) μ ⟨nx, P.rt, P.nx, nx, P.rz⟩) :
    ∀ (r : List (D × D)) (Γ : Gam) (μ : Mem), I r Γ μ → wForPL i j body r Γ μ P
  | [], Γ, μ, h => fin Γ μ h
  | x :: r, Γ, μ, h => step x r Γ μ h _ fun Γ' μ' h' => wForPL_go I fin step r Γ' μ' h'
end TC

set_option Elab.async false
set_option linter.all false
set_option maxRecDepth 100000
set_option maxHeartbeats 2000000
namespace TC
open PySem PySem.Spec PyProof.Rows L2
theorem wForL_go0 {j : Nat} {body : DS} {P : Post} (I : List D → Gam → Mem → Prop) (fin : ∀ Γ μ, I [] Γ μ → P.nx Γ μ)
    (step : ∀ x xs Γ μ, I (x :: xs) Γ μ → (nx : Gam → Mem → Prop) → (∀ Γ' μ', I xs Γ' μ' → nx Γ' μ') → body (Γ.set j (some x)) μ ⟨nx, P.rt, P.nx, nx, P.rz⟩) (ds : List D) (Γ : Gam) (μ : Mem) (h : I ds Γ μ) : wForL (tfN j) body ds Γ μ P :=
  wForL_go I fin step ds Γ μ h
theorem set_get {μ : Mem} {k : Nat} {c d : Cell} (h : μ[k]? = some d) : (μ.set k c)[k]? = some c := List.getElem?_set_self (List.getElem?_eq_some_iff.mp h).1
theorem put_new {ks : List (List Int)} {ds : List D} {k : List Int} {e : D} (h : ks.contains k = false) : putD ks ds k e = (ks ++ [k], ds ++ [e]) := by
  unfold putD
  rw [if_neg (by rw [h]; decide)]
theorem keyD_tI (k : List Int) : keyD (tI k) = some k := keyD_ints k
theorem wSetd_it {wo we wf : DX} {Γ : Gam} {μ : Mem} {R : RD} {Z : ZD} {m : Nat} {b : List (List Int) × List D} {y d : D} {g : List Int} (ho : ∀ Q : RD, Q (.mt m) μ → wo Γ μ Q Z) (he : ∀ Q : RD, Q y μ → we Γ μ Q Z) (hf : ∀ Q : RD, Q d μ → wf Γ μ Q Z)
    (hy : keyD y = some g) (hμ : μ[m]? = some (.dt b.1 b.2)) (hb : b.1.length = b.2.length) (hz : b.1.length < big) (q : ∀ d', R d' (μ.set m (.dt (setD b g d).1 (setD b g d).2))) : wSetd wo we wf Γ μ R Z := by
  unfold wSetd
  refine ho _ ⟨?_, he _ (hf _ ?_)⟩
  · show (match μ[m]? with | some (.dt ks ds) => some (ks, ds) | _ => none).isSome = true
    rw [hμ]
    rfl
  · rw [hy]
    show (match μ[m]? with
      | some (.dt ks ds) => ks.length < big ∧ match getK ks ds g with
        | some d' => ks.contains g = true ∧ R d' μ
        | none => ks.contains g = false ∧ R d (μ.set m (.dt (ks ++ [g]) (ds ++ [d])))
      | _ => False)
    rw [hμ]
    refine ⟨hz, ?_⟩
    have gs := getK_some (t := g) hb
    unfold setD at q
    cases hg : getK b.1 b.2 g with
    | some d' =>
      rw [hg] at gs
      have gs : b.1.contains g = true := gs.symm
      have q := q d'
      rw [if_pos gs] at q
      have es : μ.set m (.dt b.1 b.2) = μ := by
        obtain ⟨h1, h2⟩ := List.getElem?_eq_some_iff.mp hμ
        rw [← h2]
        exact List.set_getElem_self h1
      rw [es] at q
      exact ⟨gs, q⟩
    | none =>
      rw [hg] at gs
      have gs : b.1.contains g = false := gs.symm
      have q := q d
      rw [if_neg (by rw [gs]; decide)] at q
      exact ⟨gs, q⟩
end TC

set_option Elab.async false
set_option linter.all false
set_option maxRecDepth 100000
set_option maxHeartbeats 2000000
namespace TC
open PySem PySem.Spec PyProof.Rows L2
/-- the memory of next_row -/
def memN (μ : Mem) (k : Nat) (s : Wst) : Mem := μ.set k (.dt s.ks (wsD s.ws)) ++ [.lst (s.fd.map tI)]
section
variable {μ : Mem} {k : Nat} {s s' : Wst} (hk : k < μ.length)
include hk
theorem memN_k : (memN μ k s)[k]? = some (.dt s.ks (wsD s.ws)) := by
  unfold memN
  rw [List.getElem?_append_left (by rw [List.length_set]; exact hk), List.getElem?_set_self hk]
theorem memN_f : (memN μ k s)[μ.length]? = some (.lst (s.fd.map tI)) := by
  unfold memN
  rw [List.getElem?_append_right (by rw [List.length_set]; exact Nat.le_refl _), List.length_set, Nat.sub_self]
  rfl
theorem memN_d : dtOf (.mt k) (memN μ k s) = some (s.ks, wsD s.ws) := by
  show (match (memN μ k s)[k]? with | some (.dt ks ds) => some (ks, ds) | _ => none) = _
  rw [memN_k hk]
theorem memN_set {c : Cell} : (memN μ k s).set k c = μ.set k c ++ [.lst (s.fd.map tI)] := by
  unfold memN
  rw [List.set_append_left _ _ (by rw [List.length_set]; exact hk), List.set_set]
theorem memN_add {ks : List (List Int)} {ws : List (List D)} {fd : List (List Int)} : ((memN μ k s).set k (.dt ks (wsD ws))).set μ.length (.lst (fd.map tI)) = memN μ k ⟨ks, ws, fd⟩ := by
  rw [memN_set hk]
  unfold memN
  rw [List.set_append_right _ _ (by rw [List.length_set]; exact Nat.le_refl _), List.length_set, Nat.sub_self]
  rfl
theorem memN_f2 {c : Cell} : ((memN μ k s).set k c)[μ.length]? = some (.lst (s.fd.map tI)) := by
  rw [memN_set hk, List.getElem?_append_right (by rw [List.length_set]; exact Nat.le_refl _), List.length_set, Nat.sub_self]
  rfl
theorem memN_end : (memN μ k s).set μ.length .dead = μ.set k (.dt s.ks (wsD s.ws)) ++ [.dead] := by
  unfold memN
  rw [List.set_append_right _ _ (by rw [List.length_set]; exact Nat.le_refl _), List.length_set, Nat.sub_self]
  rfl
end
theorem memN_0 {μ : Mem} {k : Nat} {s : Wst} (h : μ[k]? = some (.dt s.ks (wsD s.ws))) (hf : s.fd = []) : μ ++ [.lst []] = memN μ k s := by
  unfold memN
  obtain ⟨h1, h2⟩ := List.getElem?_eq_some_iff.mp h
  rw [← h2, List.set_getElem_self h1, hf]
  rfl
theorem zipKeys (lk : List (List Int)) (ld : List D) : (keysD lk).zip ld = (lk.zip ld).map fun p => (tI p.1, p.2) := by
  unfold keysD
  rw [List.zip_map_left]
  rfl
theorem stepW_fd {s : Wst} {t g : List Int} {l : D} (h : s.fd.length ≤ s.ks.length) : (stepW t g l s).fd.length ≤ (stepW t g l s).ks.length := by
  unfold stepW
  split
  · exact h
  · show (s.fd ++ _).length ≤ (s.ks ++ _).length
    rw [List.length_append, List.length_append]
    exact Nat.add_le_add_right h _
theorem wsD_app (ws : List (List D)) (w : List D) : wsD ws ++ [.lst w] = wsD (ws ++ [w]) := by
  unfold wsD
  rw [List.map_append]
  rfl
theorem pure_next_row (K : PySem.W.Frag) (A : Adr) (ds : List D) (μ : Mem) (R : D → Mem → Prop) (Z : Addr → Mem → Prop) (hl : ds.length = 3) (h : sm_next_row A ds μ R Z) : w_next_row K A (gam0 8 ds) μ ⟨fun _ μ1 => R .non μ1, R, fun _ _ => False, fun _ _ => False, fun cl _ μ1 => Z cl μ1⟩ := by
  obtain ⟨k, row, lk, ld, s, n, rfl, hk, hf, hlk, hp, hs, hr, hrl, htk, r⟩ := h
  have kl : k < μ.length := (List.getElem?_eq_some_iff.mp hk).1
  have ls : ∀ p ∈ lk.zip ld, Tn n p.1 ∧ p.2.pure = true := fun p hp' => ⟨htk _ (List.of_mem_zip hp').1, pures_mem hp _ (List.of_mem_zip hp').2⟩
  simp only [w_next_row, wFor, itemsI, wSeq, wNext, wRet, wDrop, wAsg, wPar, wIf, wBrk, wCnt, wRaise, wIte, wAndV, wOrV, wNotV, wNeg, wAnd, wOr, wNot, wTest, wCB, wCons, wNil, wVar, wC, wBin, wTup, wLst, wLstM, wFrz, wIsN, wOrL, wDict0, wIt, wRng1, wRng2, wMeth, wMethT, wNoP, wPt, wSl, wRev, wRgs, fTupR, fLstR, fLstRM, rgM, wCall, wYes, bOf, gam0, List.map_cons, List.map_nil, List.length_cons, List.length_nil, List.replicate, List.cons_append, List.nil_append, List.append_nil, List.getElem?_cons_zero, List.getElem?_cons_succ, List.set_cons_zero, List.set_cons_succ, Nat.add_sub_cancel, Nat.sub_self, Nat.sub_zero, Nat.reduceAdd, Nat.reduceSub, Nat.zero_add, if_true, if_false, Bool.false_eq_true, Bool.not_true, Bool.not_false, true_and, and_true, pures, D.pure, Bool.and_true, Bool.true_and]
  refine ⟨by decide, ?_⟩
  rw [memN_0 hk hf]
  refine wForL_go (fun r' Γ μ' => ∃ (s' : Wst) (rest : List (List Int)) (d4 d5 d6 d7 : Option D), r' = rest.map tI ∧ Γ = [some (.lst (row.map tI)), some (.mt k), some (.dt lk ld), some (.mt μ.length), d4, d5, d6, d7] ∧ μ' = memN μ k s' ∧ WstOk n s' ∧ (∀ t ∈ rest, t ∈ s'.ks) ∧ rowF (lk.zip ld) rest s' = rowF (lk.zip ld) row s ∧ s'.fd.length ≤ s'.ks.length) ?_ ?_ _ _ _ ⟨s, row, _, _, _, _, rfl, rfl, rfl, hs, hr, rfl, by rw [hf]; exact Nat.zero_le _⟩
  · rintro Γ μ' ⟨s', rest, d4, d5, d6, d7, hrest, rfl, rfl, ok, _, e, _⟩
    cases rest with
    | cons t rest => cases hrest
    | nil =>
      have e : s' = rowF (lk.zip ld) row s := e
      simp only [fFrz, wSeq, wNext, wRet, wDrop, wAsg, wPar, wIf, wBrk, wCnt, wRaise, wIte, wAndV, wOrV, wNotV, wNeg, wAnd, wOr, wNot, wTest, wCB, wCons, wNil, wVar, wC, wBin, wTup, wLst, wLstM, wFrz, wIsN, wOrL, wDict0, wIt, wRng1, wRng2, wMeth, wMethT, wNoP, wPt, wSl, wRev, wRgs, fTupR, fLstR, fLstRM, rgM, wCall, wYes, bOf, gam0, List.map_cons, List.map_nil, List.length_cons, List.length_nil, List.replicate, List.cons_append, List.nil_append, List.append_nil, List.getElem?_cons_zero, List.getElem?_cons_succ, List.set_cons_zero, List.set_cons_succ, Nat.add_sub_cancel, Nat.sub_self, Nat.sub_zero, Nat.reduceAdd, Nat.reduceSub, Nat.zero_add, if_true, if_false, Bool.false_eq_true, Bool.not_true, Bool.not_false, true_and, and_true, pures, D.pure, Bool.and_true, Bool.true_and]
      rw [memN_f kl]
      show R _ _
      rw [memN_end kl, e]
      exact r
  · rintro x r' Γ μ' ⟨s1, rest, d4, d5, d6, d7, hrest, rfl, rfl, ok, hm, e, hfd⟩ nx hnx
    cases rest with
    | nil => cases hrest
    | cons t rest =>
      obtain ⟨hx, hr2⟩ := List.cons.inj (hrest : x :: r' = tI t :: rest.map tI)
      clear hrest
      subst hx hr2
      have tm := hm t (List.mem_cons_self ..)
      have tt : Tn n t := ok.2.2.2 t tm
      have t5 := tt.bd
      obtain ⟨i1, i2, i3⟩ := inF_all (lk.zip ld) s1 ok tt ls
      simp only [wForP, wItems, wSeq, wNext, wRet, wDrop, wAsg, wPar, wIf, wBrk, wCnt, wRaise, wIte, wAndV, wOrV, wNotV, wNeg, wAnd, wOr, wNot, wTest, wCB, wCons, wNil, wVar, wC, wBin, wTup, wLst, wLstM, wFrz, wIsN, wOrL, wDict0, wIt, wRng1, wRng2, wMeth, wMethT, wNoP, wPt, wSl, wRev, wRgs, fTupR, fLstR, fLstRM, rgM, wCall, wYes, bOf, gam0, List.map_cons, List.map_nil, List.length_cons, List.length_nil, List.replicate, List.cons_append, List.nil_append, List.append_nil, List.getElem?_cons_zero, List.getElem?_cons_succ, List.set_cons_zero, List.set_cons_succ, Nat.add_sub_cancel, Nat.sub_self, Nat.sub_zero, Nat.reduceAdd, Nat.reduceSub, Nat.zero_add, if_true, if_false, Bool.false_eq_true, Bool.not_true, Bool.not_false, true_and, and_true, pures, D.pure, Bool.and_true, Bool.true_and]
      refine ⟨hlk, ?_⟩
      rw [zipKeys]
      refine wForPL_go (fun r' Γ μ' => ∃ (s' : Wst) (rest : List (List Int × D)) (d5 d6 d7 : Option D), r' = rest.map (fun p => (tI p.1, p.2)) ∧ Γ = [some (.lst (row.map tI)), some (.mt k), some (.dt lk ld), some (.mt μ.length), some (tI t), d5, d6, d7] ∧ μ' = memN μ k s' ∧ WstOk n s' ∧ t ∈ s'.ks ∧ (∀ p ∈ rest, Tn n p.1 ∧ p.2.pure = true) ∧ inF t rest s' = inF t (lk.zip ld) s1 ∧ s'.fd.length ≤ s'.ks.length) ?_ ?_ _ _ _ ⟨s1, lk.zip ld, _, _, _, rfl, rfl, rfl, ok, tm, ls, rfl, hfd⟩
      · rintro Γ μ' ⟨s', rest', d5, d6, d7, hrest, rfl, rfl, ok', _, _, e', hfd'⟩
        cases rest' with
        | cons p rest' => cases hrest
        | nil =>
          have e' : s' = inF t (lk.zip ld) s1 := e'
          exact hnx _ _ ⟨s', rest, _, _, _, _, rfl, rfl, rfl, ok', fun t' h' => by rw [e']; exact i2.mem (hm t' (List.mem_cons_of_mem _ h')), by rw [e']; exact e, hfd'⟩
      · rintro x r' Γ μ' ⟨s', rest', d5, d6, d7, hrest, rfl, rfl, ok', tm', hp', e', hfd'⟩ nx' hnx'
        cases rest' with
        | nil => cases hrest
        | cons p rest' =>
          obtain ⟨hx, hr2⟩ := List.cons.inj (hrest : x :: r' = (tI p.1, p.2) :: rest'.map (fun p => (tI p.1, p.2)))
          clear hrest
          subst hx hr2
          have pp := hp' p (List.mem_cons_self ..)
          have tp : Tn n (putL t p.1) := tt.put pp.1
          have st := stepW_ok (l := p.2) ok' tt pp.1 pp.2
          have lenk := ok'.len
          have wl := wordAt_ok ok' t
          have next : ∀ d5 d6 d7, nx' [some (.lst (row.map tI)), some (.mt k), some (.dt lk ld), some (.mt μ.length), some (tI t), d5, d6, d7] (memN μ k (stepW t p.1 p.2 s')) := fun d5 d6 d7 =>
            hnx' _ _ ⟨_, rest', _, _, _, rfl, rfl, rfl, st, (stepW_ext (s := s') (t := t) (g := p.1) (l := p.2)).1.mem tm', fun q hq => hp' q (List.mem_cons_of_mem _ hq), e', stepW_fd hfd'⟩
          simp only [wSeq, wNext, wRet, wDrop, wAsg, wPar, wIf, wBrk, wCnt, wRaise, wIte, wAndV, wOrV, wNotV, wNeg, wAnd, wOr, wNot, wTest, wCB, wCons, wNil, wVar, wC, wBin, wTup, wLst, wLstM, wFrz, wIsN, wOrL, wDict0, wIt, wRng1, wRng2, wMeth, wMethT, wNoP, wPt, wSl, wRev, wRgs, fTupR, fLstR, fLstRM, rgM, wCall, wYes, bOf, gam0, List.map_cons, List.map_nil, List.length_cons, List.length_nil, List.replicate, List.cons_append, List.nil_append, List.append_nil, List.getElem?_cons_zero, List.getElem?_cons_succ, List.set_cons_zero, List.set_cons_succ, Nat.add_sub_cancel, Nat.sub_self, Nat.sub_zero, Nat.reduceAdd, Nat.reduceSub, Nat.zero_add, if_true, if_false, Bool.false_eq_true, Bool.not_true, Bool.not_false, true_and, and_true, pures, D.pure, Bool.and_true, Bool.true_and]
          refine ⟨by rw [pure_tI, pure_tI]; rfl, t, p.1, rfl, fun j hj => by rw [tt.2]; exact pp.1.rng j hj, by rw [pp.1.2]; omega, ?_⟩
          simp only [dDIn, memN_d kl, keyD_tI, if_true, wSeq, wNext, wRet, wDrop, wAsg, wPar, wIf, wBrk, wCnt, wRaise, wIte, wAndV, wOrV, wNotV, wNeg, wAnd, wOr, wNot, wTest, wCB, wCons, wNil, wVar, wC, wBin, wTup, wLst, wLstM, wFrz, wIsN, wOrL, wDict0, wIt, wRng1, wRng2, wMeth, wMethT, wNoP, wPt, wSl, wRev, wRgs, fTupR, fLstR, fLstRM, rgM, wCall, wYes, bOf, gam0, List.map_cons, List.map_nil, List.length_cons, List.length_nil, List.replicate, List.cons_append, List.nil_append, List.append_nil, List.getElem?_cons_zero, List.getElem?_cons_succ, List.set_cons_zero, List.set_cons_succ, Nat.add_sub_cancel, Nat.sub_self, Nat.sub_zero, Nat.reduceAdd, Nat.reduceSub, Nat.zero_add, if_true, if_false, Bool.false_eq_true, Bool.not_true, Bool.not_false, true_and, and_true, pures, D.pure, Bool.and_true, Bool.true_and]
          cases hc : s'.ks.contains (putL t p.1) with
          | true =>
            show nx' _ _
            have es : stepW t p.1 p.2 s' = s' := by
              unfold stepW
              rw [if_pos hc]
            have := next (some (tI p.1)) (some p.2) (some (tI (putL t p.1)))
            rw [es] at this
            exact this
          | false =>
            rw [if_pos (show (!false) = true from rfl)]
            have es : stepW t p.1 p.2 s' = ⟨s'.ks ++ [putL t p.1], s'.ws ++ [wordAt s' t ++ [p.2]], s'.fd ++ [putL t p.1]⟩ := by
              unfold stepW
              rw [if_neg (by rw [hc]; decide)]
            have hg : getK s'.ks (wsD s'.ws) t = some (.lst (wordAt s' t)) := word_at ok'.1 tm'
            simp only [wSetK, dDGet, memN_d kl, keyD_tI, hg, dAdd, memN_k kl, put_new hc, wsD_app, wSeq, wNext, wRet, wDrop, wAsg, wPar, wIf, wBrk, wCnt, wRaise, wIte, wAndV, wOrV, wNotV, wNeg, wAnd, wOr, wNot, wTest, wCB, wCons, wNil, wVar, wC, wBin, wTup, wLst, wLstM, wFrz, wIsN, wOrL, wDict0, wIt, wRng1, wRng2, wMeth, wMethT, wNoP, wPt, wSl, wRev, wRgs, fTupR, fLstR, fLstRM, rgM, wCall, wYes, bOf, gam0, List.map_cons, List.map_nil, List.length_cons, List.length_nil, List.replicate, List.cons_append, List.nil_append, List.append_nil, List.getElem?_cons_zero, List.getElem?_cons_succ, List.set_cons_zero, List.set_cons_succ, Nat.add_sub_cancel, Nat.sub_self, Nat.sub_zero, Nat.reduceAdd, Nat.reduceSub, Nat.zero_add, if_true, if_false, Bool.false_eq_true, Bool.not_true, Bool.not_false, true_and, and_true, pures, D.pure, Bool.and_true, Bool.true_and]
            refine ⟨by decide, by unfold big; omega, by unfold big; omega, ?_⟩
            simp only [isLst, dAppend, memN_f2 kl]
            refine ⟨trivial, by rw [List.length_map]; unfold big; omega, ?_⟩
            have ef : s'.fd.map tI ++ [tI (putL t p.1)] = (s'.fd ++ [putL t p.1]).map tI := by rw [List.map_append]; rfl
            rw [ef, memN_add kl, ← es]
            exact next _ _ _
end TC

set_option Elab.async false
set_option linter.all false
set_option maxRecDepth 100000
set_option maxHeartbeats 2000000
namespace TC
open PySem PySem.Spec PyProof.Rows L2
/-- the memory of words_of -/
def memW (μ : Mem) (s : Wst) (e : Mem) : Mem := μ ++ .dead :: .dt s.ks (wsD s.ws) :: e
section
variable {μ e : Mem} {s : Wst}
theorem memW_at : (memW μ s e)[μ.length + 1]? = some (.dt s.ks (wsD s.ws)) := by
  unfold memW
  rw [List.getElem?_append_right (by omega), Nat.add_sub_cancel_left]
  rfl
theorem memW_set {c : Cell} : (memW μ s e).set (μ.length + 1) c = μ ++ .dead :: c :: e := by
  unfold memW
  rw [List.set_append_right _ _ (by omega), Nat.add_sub_cancel_left]
  rfl
theorem memW_next {s1 : Wst} : (memW μ s e).set (μ.length + 1) (.dt s1.ks (wsD s1.ws)) ++ [.dead] = memW μ s1 (e ++ [.dead]) := by
  rw [memW_set]
  unfold memW
  rw [List.append_assoc]
  rfl
end
structure InvW (n : Nat) (gs : List (List Int)) (s : Wst) : Prop where
  ok : WstOk n s
  e : rgL n ∈ s.ks
  cl : ∀ x ∈ s.ks, Cl n gs x
  sub : ∀ x ∈ s.fd, x ∈ s.ks
  fl : s.fd.length ≤ s.ks.length
  done : ∀ x ∈ s.ks, x ∈ s.fd ∨ ∀ g ∈ gs, putL x g ∈ s.ks
theorem zip_fst {α β : Type} : ∀ {as : List α} {bs : List β} {a : α}, as.length = bs.length → a ∈ as → ∃ b, (a, b) ∈ as.zip bs
  | [], _, _, _, h => nomatch h
  | _ :: _, [], _, h, _ => by simp at h
  | x :: as, b :: bs, a, h, hm => by
    rcases List.mem_cons.mp hm with rfl | hm
    · exact ⟨b, List.mem_cons_self ..⟩
    · obtain ⟨c, hc⟩ := zip_fst (as := as) (bs := bs) (by simpa using h) hm
      exact ⟨c, List.mem_cons_of_mem _ hc⟩
theorem InvW.next {n : Nat} {gs : List (List Int)} {s : Wst} (h : InvW n gs s) (lt : ∀ t ∈ gs, Tn n t) {lk : List (List Int)} {ld : List D} (hl : lk.length = ld.length) (hp : pures ld = true) (hk : ∀ x, x ∈ lk ↔ x ∈ gs) :
    InvW n gs (rowF (lk.zip ld) s.fd ⟨s.ks, s.ws, []⟩) ∧ ∃ e, (rowF (lk.zip ld) s.fd ⟨s.ks, s.ws, []⟩).ks = s.ks ++ e ∧ (rowF (lk.zip ld) s.fd ⟨s.ks, s.ws, []⟩).fd = e := by
  have ls : ∀ p ∈ lk.zip ld, Tn n p.1 ∧ p.2.pure = true := fun p hp' => ⟨lt _ ((hk _).mp (List.of_mem_zip hp').1), pures_mem hp _ (List.of_mem_zip hp').2⟩
  have ok0 : WstOk n ⟨s.ks, s.ws, []⟩ := h.ok
  obtain ⟨a1, a2, a3⟩ := rowF_all (ls := lk.zip ld) s.fd ⟨s.ks, s.ws, []⟩ ok0 (fun t ht => h.ok.2.2.2 t (h.sub t ht)) ls
  have mem := fun {x} (hx : x ∈ s.ks) => a2.mem (x := x) hx
  obtain ⟨e, e1, e2, e3⟩ := a2
  have e2 : (rowF (lk.zip ld) s.fd ⟨s.ks, s.ws, []⟩).fd = e := e2
  refine ⟨⟨a1, mem h.e, fun x hx => ?_, fun x hx => ?_, by rw [e1, e2, List.length_append]; omega, fun x hx => ?_⟩, e, e1, e2⟩
  · rw [e1] at hx
    rcases List.mem_append.mp hx with hx | hx
    · exact h.cl x hx
    · obtain ⟨t, ht, p, hp', rfl⟩ := e3 x hx
      exact .s (h.cl t (h.sub t ht)) ((hk _).mp (List.of_mem_zip hp').1)
  · rw [e2] at hx
    rw [e1]
    exact List.mem_append_right _ hx
  · rw [e1] at hx
    rcases List.mem_append.mp hx with hx | hx
    · right
      intro g hg
      rcases h.done x hx with hd | hd
      · obtain ⟨b, hb⟩ := zip_fst hl ((hk g).mpr hg)
        exact a3 x hd _ hb
      · exact mem (hd g hg)
    · left
      rw [e2]
      exact hx
end TC

set_option Elab.async false
set_option linter.all false
set_option maxRecDepth 100000
set_option maxHeartbeats 2000000
namespace TC
open PySem PySem.Spec PyProof.Rows L2
end TC

set_option Elab.async false
set_option linter.all false
set_option maxRecDepth 100000
set_option maxHeartbeats 2000000
namespace TC
open PySem PySem.Spec PyProof.Rows L2
theorem isi_t0 : isi "tuple" "tuple" = true := by decide
theorem isi_t1 : isi "NoneType" "tuple" = false := by decide
theorem isi_t2 : isi "bool" "tuple" = false := by decide
theorem isi_t3 : isi "int" "tuple" = false := by decide
theorem isi_t4 : isi "str" "tuple" = false := by decide
theorem isi_t5 : isi "list" "tuple" = false := by decide
theorem isi_t6 : isi "dict" "tuple" = false := by decide
theorem okT_isRow {x : D} {ts : List (List Int)} (h : seqD x = some (ts.map tI)) : isRow x ts := by
  cases x <;> first | (cases h; done) | skip
  · cases h
    exact .inr rfl
  · cases h
    exact .inl rfl
theorem pures_1 {x : D} (h : x.pure = true) : pures [x] = true := by
  show (x.pure && true) = true
  rw [h]
  rfl
theorem pures_2 {x y : D} (h : x.pure = true) (h2 : y.pure = true) : pures [x, y] = true := by
  show (x.pure && (y.pure && true)) = true
  rw [h, h2]
  rfl
theorem few_it {A : Adr} {x : D} {ts : List (List Int)} {n : Nat} {Q : D → Mem → Prop} {μ : Mem} {Z : Addr → Prop} (hx : isRow x ts) (hlen : ts.length ≤ 1000) (n2 : 2 ≤ n) (n5 : n ≤ 5) (tt : ∀ t ∈ ts, Tn n t) (q : ∀ g, GrpOk n ts g → Q (.tup (g.map tI)) μ) :
    sp_few_and_all A [x, .int n] (fun d => dIx d (.int 1) μ Q) Z := by
  refine ⟨x, ts, n, rfl, hx, hlen, ⟨n2, n5⟩, tt, fun few g _ hg _ => ?_⟩
  show Q (.tup (g.map tI)) μ
  exact q g hg
theorem mixed_gen {β : Type} (f : β → D) (hp : ∀ b, (f b).pure = true) (he : ∀ ls : List β, eqOk (.lst (ls.map f)) = true) (hd : ∀ ls : List β, deq (.lst (ls.map f)) (.lst []) = decide (ls.length = 0)) (K : PySem.W.Frag) (A : Adr) (x : D) (ns : List β) (hx : seqD x = some (ns.map f)) (h2 : ns.length ≤ 1000)
    (R : D → Prop) (Z : Addr → Prop) (r : ∀ ms : List β, ms.Perm ns → R (.lst (ms.map f))) : w_law_mixed K A (gam0 4 [.st, x]) [] (Pt R Z) := by
  have hi : items x [] = some (ns.map f) := by
    cases x <;> first | (cases hx; done) | skip
    · exact hx
    · exact hx
  have pf : ∀ ms : List β, pures (ms.map f) = true := fun ms => pures_of fun d hd => by
    obtain ⟨b, _, rfl⟩ := List.mem_map.mp hd
    exact hp b
  simp only [w_law_mixed, dLstOfM, hi, wSeq, wNext, wRet, wDrop, wAsg, wPar, wIf, wBrk, wCnt, wRaise, wIte, wAndV, wOrV, wNotV, wNeg, wAnd, wOr, wNot, wTest, wCB, wCons, wNil, wVar, wC, wBin, wTup, wLst, wLstM, wFrz, wIsN, wOrL, wDict0, wIt, wRng1, wRng2, wMeth, wMethT, wNoP, wPt, wSl, wRev, wRgs, fTupR, fLstR, fLstRM, rgM, wCall, wYes, bOf, gam0, List.map_cons, List.map_nil, List.length_cons, List.length_nil, List.replicate, List.cons_append, List.nil_append, List.append_nil, List.getElem?_cons_zero, List.getElem?_cons_succ, List.set_cons_zero, List.set_cons_succ, Nat.add_sub_cancel, Nat.sub_self, Nat.sub_zero, Nat.reduceAdd, Nat.reduceSub, Nat.zero_add, if_true, if_false, Bool.false_eq_true, Bool.not_true, Bool.not_false, true_and, and_true, Bool.and_true, Bool.true_and]
  refine ⟨Nat.zero_le _, ?_⟩
  refine ⟨fun m Γ μ => ∃ ls rs : List β, (ls ++ rs).Perm ns ∧ ls.length = m ∧ Γ = [some .st, some x, some (.mt 0), some (.mt 1)] ∧ μ = [.lst (ls.map f), .lst (rs.map f)], ns.length, ⟨ns, [], by rw [List.append_nil], rfl, rfl, rfl⟩, ?_⟩
  rintro m Γ μ ⟨ls, rs, hp, rfl, rfl, rfl⟩
  have hlen := hp.length_eq
  rw [List.length_append] at hlen
  simp only [dNe, res, cellD, wSeq, wNext, wRet, wDrop, wAsg, wPar, wIf, wBrk, wCnt, wRaise, wIte, wAndV, wOrV, wNotV, wNeg, wAnd, wOr, wNot, wTest, wCB, wCons, wNil, wVar, wC, wBin, wTup, wLst, wLstM, wFrz, wIsN, wOrL, wDict0, wIt, wRng1, wRng2, wMeth, wMethT, wNoP, wPt, wSl, wRev, wRgs, fTupR, fLstR, fLstRM, rgM, wCall, wYes, bOf, gam0, List.map_cons, List.map_nil, List.length_cons, List.length_nil, List.replicate, List.cons_append, List.nil_append, List.append_nil, List.getElem?_cons_zero, List.getElem?_cons_succ, List.set_cons_zero, List.set_cons_succ, Nat.add_sub_cancel, Nat.sub_self, Nat.sub_zero, Nat.reduceAdd, Nat.reduceSub, Nat.zero_add, if_true, if_false, Bool.false_eq_true, Bool.not_true, Bool.not_false, true_and, and_true, Bool.and_true, Bool.true_and]
  refine ⟨Nat.zero_le _, ⟨he ls, eqOk_lI []⟩, ?_⟩
  rw [hd]
  by_cases hn : ls.length = 0
  · have hn' := List.eq_nil_of_length_eq_zero hn
    subst hn'
    rw [decide_eq_true (show ([] : List β).length = 0 from rfl), if_neg (by decide)]
    simp only [fFrz, wSeq, wNext, wRet, wDrop, wAsg, wPar, wIf, wBrk, wCnt, wRaise, wIte, wAndV, wOrV, wNotV, wNeg, wAnd, wOr, wNot, wTest, wCB, wCons, wNil, wVar, wC, wBin, wTup, wLst, wLstM, wFrz, wIsN, wOrL, wDict0, wIt, wRng1, wRng2, wMeth, wMethT, wNoP, wPt, wSl, wRev, wRgs, fTupR, fLstR, fLstRM, rgM, wCall, wYes, bOf, gam0, List.map_cons, List.map_nil, List.length_cons, List.length_nil, List.replicate, List.cons_append, List.nil_append, List.append_nil, List.getElem?_cons_zero, List.getElem?_cons_succ, List.set_cons_zero, List.set_cons_succ, Nat.add_sub_cancel, Nat.sub_self, Nat.sub_zero, Nat.reduceAdd, Nat.reduceSub, Nat.zero_add, if_true, if_false, Bool.false_eq_true, Bool.not_true, Bool.not_false, true_and, and_true, Bool.and_true, Bool.true_and]
    exact ⟨pf _, r rs hp⟩
  · rw [decide_eq_false hn, if_pos (by decide)]
    refine ⟨rfl, rfl, ?_⟩
    simp only [dLen, items, wSeq, wNext, wRet, wDrop, wAsg, wPar, wIf, wBrk, wCnt, wRaise, wIte, wAndV, wOrV, wNotV, wNeg, wAnd, wOr, wNot, wTest, wCB, wCons, wNil, wVar, wC, wBin, wTup, wLst, wLstM, wFrz, wIsN, wOrL, wDict0, wIt, wRng1, wRng2, wMeth, wMethT, wNoP, wPt, wSl, wRev, wRgs, fTupR, fLstR, fLstRM, rgM, wCall, wYes, bOf, gam0, List.map_cons, List.map_nil, List.length_cons, List.length_nil, List.replicate, List.cons_append, List.nil_append, List.append_nil, List.getElem?_cons_zero, List.getElem?_cons_succ, List.set_cons_zero, List.set_cons_succ, Nat.add_sub_cancel, Nat.sub_self, Nat.sub_zero, Nat.reduceAdd, Nat.reduceSub, Nat.zero_add, if_true, if_false, Bool.false_eq_true, Bool.not_true, Bool.not_false, true_and, and_true, Bool.and_true, Bool.true_and]
    refine ⟨rfl, _, rfl, by rw [List.length_map]; omega, by rw [List.length_map]; omega, fun i i0 i1 => ?_⟩
    rw [List.length_map] at i1
    have hi : i.toNat < ls.length := by omega
    simp only [dPopAt, dAppend, wSeq, wNext, wRet, wDrop, wAsg, wPar, wIf, wBrk, wCnt, wRaise, wIte, wAndV, wOrV, wNotV, wNeg, wAnd, wOr, wNot, wTest, wCB, wCons, wNil, wVar, wC, wBin, wTup, wLst, wLstM, wFrz, wIsN, wOrL, wDict0, wIt, wRng1, wRng2, wMeth, wMethT, wNoP, wPt, wSl, wRev, wRgs, fTupR, fLstR, fLstRM, rgM, wCall, wYes, bOf, gam0, List.map_cons, List.map_nil, List.length_cons, List.length_nil, List.replicate, List.cons_append, List.nil_append, List.append_nil, List.getElem?_cons_zero, List.getElem?_cons_succ, List.set_cons_zero, List.set_cons_succ, Nat.add_sub_cancel, Nat.sub_self, Nat.sub_zero, Nat.reduceAdd, Nat.reduceSub, Nat.zero_add, if_true, if_false, Bool.false_eq_true, Bool.not_true, Bool.not_false, true_and, and_true, Bool.and_true, Bool.true_and]
    refine ⟨⟨i0, by omega⟩, f ls[i.toNat], ?_, ?_⟩
    · rw [List.getElem?_map, List.getElem?_eq_getElem hi]
      rfl
    · refine ⟨by rw [List.length_map]; unfold big; omega, ls.length - 1, by omega, ls.eraseIdx i.toNat, rs ++ [ls[i.toNat]], ?_, ?_, ?_⟩
      · refine .trans ?_ hp
        have p1 : (ls.eraseIdx i.toNat ++ [ls[i.toNat]]).Perm ls := by
          rw [List.eraseIdx_eq_take_drop_succ]
          have e : ls = ls.take i.toNat ++ ls[i.toNat] :: ls.drop (i.toNat + 1) := by
            rw [← List.drop_eq_getElem_cons hi, List.take_append_drop]
          refine .trans ?_ (.of_eq e.symm)
          rw [List.append_assoc]
          exact .append_left _ (List.perm_append_singleton _ _)
        rw [← List.append_assoc]
        refine .trans ?_ (p1.append_right rs)
        rw [List.append_assoc, List.append_assoc]
        exact .append_left _ List.perm_append_comm
      · rw [List.length_eraseIdx, if_pos hi]
      · rw [List.map_append]
        have e : (ls.eraseIdx i.toNat).map f = (ls.map f).eraseIdx i.toNat := by
          simp [List.eraseIdx_eq_take_drop_succ, List.map_take, List.map_drop]
        rw [e]
        rfl
theorem pure_law_mixed (K : PySem.W.Frag) (A : Adr) (ds : List D) (R : D → Prop) (Z : Addr → Prop) (hl : ds.length = 2) (h : sx_law_mixed A ds R Z) : w_law_mixed K A (gam0 4 ds) [] (Pt R Z) := by
  obtain ⟨x, xs, rfl, hs, hlen, h⟩ := h
  rcases h with ⟨ns, rfl, r⟩ | ⟨ts, rfl, r⟩
  · rw [List.length_map] at hlen
    refine mixed_gen D.int (fun _ => rfl) eqOk_lI (fun ls => ?_) K A x ns hs hlen R Z r
    have := deq_lI ls []
    simp only [List.map_nil] at this
    rw [this]
    cases ls <;> simp
  · rw [List.length_map] at hlen
    refine mixed_gen tI pure_tI eqOk_rowsL (fun ls => ?_) K A x ts hs hlen R Z r
    have := deq_rowsL ls []
    simp only [List.map_nil] at this
    rw [this]
    cases ls <;> simp
theorem pure_law_a_turn (K : PySem.W.Frag) (A : Adr) (ds : List D) (R : D → Prop) (Z : Addr → Prop) (hl : ds.length = 2) (h : sp_law_a_turn A ds R Z) : w_law_a_turn K A (gam0 4 ds) [] (Pt R Z) := by
  obtain ⟨n, rfl, n2, n5, r⟩ := h
  obtain ⟨m, rfl⟩ : ∃ m : Nat, n = m := ⟨n.toNat, by omega⟩
  have m4 : m ∈ [2, 3, 4, 5] := by
    have : m = 2 ∨ m = 3 ∨ m = 4 ∨ m = 5 := by omega
    rcases this with rfl | rfl | rfl | rfl <;> decide
  have rk : rgOk (m : Int) := by unfold rgOk; omega
  simp only [w_law_a_turn, wSeq, wNext, wRet, wDrop, wAsg, wPar, wIf, wBrk, wCnt, wRaise, wIte, wAndV, wOrV, wNotV, wNeg, wAnd, wOr, wNot, wTest, wCB, wCons, wNil, wVar, wC, wBin, wTup, wLst, wLstM, wFrz, wIsN, wOrL, wDict0, wIt, wRng1, wRng2, wMeth, wMethT, wNoP, wPt, wSl, wRev, wRgs, fTupR, fLstR, fLstRM, rgM, wCall, wYes, bOf, gam0, List.map_cons, List.map_nil, List.length_cons, List.length_nil, List.replicate, List.cons_append, List.nil_append, List.append_nil, List.getElem?_cons_zero, List.getElem?_cons_succ, List.set_cons_zero, List.set_cons_succ, Nat.add_sub_cancel, Nat.sub_self, Nat.sub_zero, Nat.reduceAdd, Nat.reduceSub, Nat.zero_add, if_true, if_false, Bool.false_eq_true, Bool.not_true, Bool.not_false, true_and, and_true, pures, D.pure, Bool.and_true, Bool.true_and]
  refine ⟨5, rfl, by decide, by decide, fun way _ _ => ?_⟩
  simp only [dEq, res, eqOk_int, deq_int, wSeq, wNext, wRet, wDrop, wAsg, wPar, wIf, wBrk, wCnt, wRaise, wIte, wAndV, wOrV, wNotV, wNeg, wAnd, wOr, wNot, wTest, wCB, wCons, wNil, wVar, wC, wBin, wTup, wLst, wLstM, wFrz, wIsN, wOrL, wDict0, wIt, wRng1, wRng2, wMeth, wMethT, wNoP, wPt, wSl, wRev, wRgs, fTupR, fLstR, fLstRM, rgM, wCall, wYes, bOf, gam0, List.map_cons, List.map_nil, List.length_cons, List.length_nil, List.replicate, List.cons_append, List.nil_append, List.append_nil, List.getElem?_cons_zero, List.getElem?_cons_succ, List.set_cons_zero, List.set_cons_succ, Nat.add_sub_cancel, Nat.sub_self, Nat.sub_zero, Nat.reduceAdd, Nat.reduceSub, Nat.zero_add, if_true, if_false, Bool.false_eq_true, Bool.not_true, Bool.not_false, true_and, and_true, pures, D.pure, Bool.and_true, Bool.true_and]
  split
  · refine ⟨rk, ?_⟩
    rw [rgD_rgL]
    exact ⟨pures_ints _, r _ (tOk_rg (by omega) (by omega)) (by rw [rgL_len])⟩
  · split
    · simp only [dSub, fI, fT, wSeq, wNext, wRet, wDrop, wAsg, wPar, wIf, wBrk, wCnt, wRaise, wIte, wAndV, wOrV, wNotV, wNeg, wAnd, wOr, wNot, wTest, wCB, wCons, wNil, wVar, wC, wBin, wTup, wLst, wLstM, wFrz, wIsN, wOrL, wDict0, wIt, wRng1, wRng2, wMeth, wMethT, wNoP, wPt, wSl, wRev, wRgs, fTupR, fLstR, fLstRM, rgM, wCall, wYes, bOf, gam0, List.map_cons, List.map_nil, List.length_cons, List.length_nil, List.replicate, List.cons_append, List.nil_append, List.append_nil, List.getElem?_cons_zero, List.getElem?_cons_succ, List.set_cons_zero, List.set_cons_succ, Nat.add_sub_cancel, Nat.sub_self, Nat.sub_zero, Nat.reduceAdd, Nat.reduceSub, Nat.zero_add, if_true, if_false, Bool.false_eq_true, Bool.not_true, Bool.not_false, true_and, and_true, pures, D.pure, Bool.and_true, Bool.true_and]
      refine ⟨_, rfl, by omega, by omega, fun i i0 i1 => ?_⟩
      obtain ⟨at_, rfl⟩ : ∃ j : Nat, i = j := ⟨i.toNat, by omega⟩
      obtain ⟨t1, t2⟩ := rgI_tok m m4 at_ (List.mem_range.mpr (by omega)) (by omega)
      simp only [dAdd, wSeq, wNext, wRet, wDrop, wAsg, wPar, wIf, wBrk, wCnt, wRaise, wIte, wAndV, wOrV, wNotV, wNeg, wAnd, wOr, wNot, wTest, wCB, wCons, wNil, wVar, wC, wBin, wTup, wLst, wLstM, wFrz, wIsN, wOrL, wDict0, wIt, wRng1, wRng2, wMeth, wMethT, wNoP, wPt, wSl, wRev, wRgs, fTupR, fLstR, fLstRM, rgM, wCall, wYes, bOf, gam0, List.map_cons, List.map_nil, List.length_cons, List.length_nil, List.replicate, List.cons_append, List.nil_append, List.append_nil, List.getElem?_cons_zero, List.getElem?_cons_succ, List.set_cons_zero, List.set_cons_succ, Nat.add_sub_cancel, Nat.sub_self, Nat.sub_zero, Nat.reduceAdd, Nat.reduceSub, Nat.zero_add, if_true, if_false, Bool.false_eq_true, Bool.not_true, Bool.not_false, true_and, and_true, pures, D.pure, Bool.and_true, Bool.true_and]
      refine ⟨by unfold rgOk; omega, by decide, ?_⟩
      rw [rgD_rgL]
      have e2 : ((m : Int) - ((at_ : Int) + 2)).toNat = m - (at_ + 2) := by omega
      have e : List.map D.int (rgL at_) ++ [D.int ((at_ : Int) + 1), D.int at_] ++ rgD ((at_ : Int) + 2) m = (rgL at_ ++ [(at_ : Int) + 1, (at_ : Int)] ++ (List.range (m - (at_ + 2))).map fun (k : Nat) => ((at_ : Int) + 2 + k)).map D.int := by
        rw [rgD_ints, e2, List.map_append, List.map_append]
        rfl
      have l1 := congrArg List.length e
      rw [List.length_map, t2] at l1
      refine ⟨?_, ⟨by unfold rgOk; omega, rk⟩, ?_, ?_⟩
      · rw [List.length_map, rgL_len]
        unfold big
        show at_ + 2 ≤ _
        omega
      · rw [← List.length_append, l1]
        unfold big
        omega
      · rw [e]
        exact ⟨pures_ints _, r _ t1 (by rw [t2])⟩
    · refine ⟨rk, ?_⟩
      rw [rgD_rgL]
      refine ⟨pures_ints _, .lst ((rgL m).map D.int), (rgL m).map D.int, rfl, rfl, by rw [List.length_map, rgL_len]; omega, .inl ⟨rgL m, rfl, fun ms hp => ?_⟩⟩
      simp only [dTupOf, items, wSeq, wNext, wRet, wDrop, wAsg, wPar, wIf, wBrk, wCnt, wRaise, wIte, wAndV, wOrV, wNotV, wNeg, wAnd, wOr, wNot, wTest, wCB, wCons, wNil, wVar, wC, wBin, wTup, wLst, wLstM, wFrz, wIsN, wOrL, wDict0, wIt, wRng1, wRng2, wMeth, wMethT, wNoP, wPt, wSl, wRev, wRgs, fTupR, fLstR, fLstRM, rgM, wCall, wYes, bOf, gam0, List.map_cons, List.map_nil, List.length_cons, List.length_nil, List.replicate, List.cons_append, List.nil_append, List.append_nil, List.getElem?_cons_zero, List.getElem?_cons_succ, List.set_cons_zero, List.set_cons_succ, Nat.add_sub_cancel, Nat.sub_self, Nat.sub_zero, Nat.reduceAdd, Nat.reduceSub, Nat.zero_add, if_true, if_false, Bool.false_eq_true, Bool.not_true, Bool.not_false, true_and, and_true, pures, D.pure, Bool.and_true, Bool.true_and]
      have hl := hp.length_eq
      rw [rgL_len] at hl
      exact ⟨pures_ints _, r ms (tOk_of_perm hp (by omega) (by omega)) (by omega)⟩
end TC

set_option Elab.async false
set_option linter.all false
set_option maxRecDepth 100000
set_option maxHeartbeats 2000000
namespace TC
open PySem PySem.Spec PyProof.Rows L2
def zsD (s : Wst) : List D := s.ks.map fun _ => D.int 0
/-- the memory of the law's closing -/
def memC (e : Mem) (s : Wst) : Mem := .dt s.ks (zsD s) :: (e ++ [.lst (s.fd.map tI)])
section
variable {e : Mem} {s : Wst}
theorem memC_d : dtOf (.mt 0) (memC e s) = some (s.ks, zsD s) := rfl
theorem memC_f : (memC e s)[e.length + 1]? = some (.lst (s.fd.map tI)) := by
  show (e ++ [Cell.lst (s.fd.map tI)])[e.length]? = _
  rw [List.getElem?_append_right (Nat.le_refl _), Nat.sub_self]
  rfl
theorem memC_f2 {c : Cell} : ((memC e s).set 0 c)[e.length + 1]? = some (.lst (s.fd.map tI)) := by
  show (e ++ [Cell.lst (s.fd.map tI)])[e.length]? = _
  rw [List.getElem?_append_right (Nat.le_refl _), Nat.sub_self]
  rfl
theorem memC_add {c : Cell} {x : List D} : ((memC e s).set 0 c).set (e.length + 1) (.lst x) = c :: (e ++ [.lst x]) := by
  show c :: ((e ++ [Cell.lst (s.fd.map tI)]).set e.length (.lst x)) = _
  rw [List.set_append_right _ _ (Nat.le_refl _), Nat.sub_self]
  rfl
theorem memC_end : (memC e s).set (e.length + 1) .dead = .dt s.ks (zsD s) :: (e ++ [.dead]) := by
  show _ :: ((e ++ [Cell.lst (s.fd.map tI)]).set e.length .dead) = _
  rw [List.set_append_right _ _ (Nat.le_refl _), Nat.sub_self]
  rfl
end
theorem zip_map_fst (ts : List (List Int)) : (ts.zip (ts.map fun _ => D.non)).map (fun p => tI p.1) = ts.map tI := by
  induction ts with
  | nil => rfl
  | cons t ts ih =>
    rw [List.map_cons, List.zip_cons_cons, List.map_cons, ih, List.map_cons]
end TC

set_option Elab.async false
set_option linter.all false
set_option maxRecDepth 100000
set_option maxHeartbeats 2000000
namespace TC
open PySem PySem.Spec PyProof.Rows L2
/-! ### things within things -/
mutual
theorem okH_pure (m : Nat) : ∀ x : D, okH m x = true → (tyN x).isSome = true ∧ x.pure = true
  | .non, _ => ⟨rfl, rfl⟩
  | .bl _, _ => ⟨rfl, rfl⟩
  | .int _, _ => ⟨rfl, rfl⟩
  | .str _, _ => ⟨rfl, rfl⟩
  | .tup ds, h => by
    have h : (decide (ds.length ≤ m) && okHs m ds) = true := h
    rw [Bool.and_eq_true] at h
    exact ⟨rfl, okHs_pure m ds h.2⟩
  | .lst ds, h => by
    have h : (decide (ds.length ≤ m) && okHs m ds) = true := h
    rw [Bool.and_eq_true] at h
    exact ⟨rfl, okHs_pure m ds h.2⟩
  | .dk ks ds, h => by
    have h : (ks.isEmpty && ds.isEmpty) = true := h
    rw [Bool.and_eq_true] at h
    cases ds with
    | nil => exact ⟨rfl, rfl⟩
    | cons d ds => cases h.2
  | .dt _ _, h => by cases h
  | .scr _, h => by cases h
  | .ty _, h => by cases h
  | .own _, h => by cases h
  | .exc _, h => by cases h
  | .mt _, h => by cases h
  | .st, h => by cases h
theorem okHs_pure (m : Nat) : ∀ ds : List D, okHs m ds = true → pures ds = true
  | [], _ => rfl
  | d :: ds, h => by
    have h : (okH m d && okHs m ds) = true := h
    rw [Bool.and_eq_true] at h
    show (d.pure && pures ds) = true
    rw [(okH_pure m d h.1).2, okHs_pure m ds h.2]
    rfl
end
theorem okHs_iff {m : Nat} : ∀ {ds : List D}, okHs m ds = true ↔ ∀ d ∈ ds, okH m d = true
  | [] => ⟨fun _ d h => absurd h (by simp), fun _ => rfl⟩
  | d :: ds => by
    show (okH m d && okHs m ds) = true ↔ _
    rw [Bool.and_eq_true, okHs_iff (ds := ds)]
    constructor
    · rintro ⟨h1, h2⟩ e he
      rcases List.mem_cons.mp he with rfl | he
      · exact h1
      · exact h2 e he
    · intro h
      exact ⟨h d (List.mem_cons_self ..), fun e he => h e (List.mem_cons_of_mem _ he)⟩
theorem okH_tup {m : Nat} {ds : List D} : okH m (.tup ds) = true ↔ ds.length ≤ m ∧ ∀ d ∈ ds, okH m d = true := by
  show (decide (ds.length ≤ m) && okHs m ds) = true ↔ _
  rw [Bool.and_eq_true, okHs_iff, decide_eq_true_iff]
theorem okH_lst {m : Nat} {ds : List D} : okH m (.lst ds) = true ↔ ds.length ≤ m ∧ ∀ d ∈ ds, okH m d = true := by
  show (decide (ds.length ≤ m) && okHs m ds) = true ↔ _
  rw [Bool.and_eq_true, okHs_iff, decide_eq_true_iff]
theorem okH_D {m : Nat} {x : D} (h : okH m x = true) : okD x = true := by
  have := okH_pure m x h
  unfold okD
  rw [this.1, this.2]
  rfl
theorem okH_T {m : Nat} {x : D} (h : okH m x = true) (hm : m ≤ 1000) : okT x = true := by
  unfold okT
  rw [okH_D h]
  cases x with
  | tup ds =>
    obtain ⟨h1, h2⟩ := okH_tup.mp h
    show (true && (ds.all okD && decide (ds.length ≤ 1000))) = true
    rw [List.all_eq_true.mpr fun d hd => okH_D (h2 d hd), decide_eq_true (by omega)]
    rfl
  | _ => rfl
mutual
theorem okH_mono {m k : Nat} (hk : m ≤ k) : ∀ x : D, okH m x = true → okH k x = true
  | .non, _ => rfl
  | .bl _, _ => rfl
  | .int _, _ => rfl
  | .str _, _ => rfl
  | .tup ds, h => by
    have h : (decide (ds.length ≤ m) && okHs m ds) = true := h
    rw [Bool.and_eq_true] at h
    show (decide (ds.length ≤ k) && okHs k ds) = true
    rw [decide_eq_true (Nat.le_trans (of_decide_eq_true h.1) hk), okHs_mono hk ds h.2]
    rfl
  | .lst ds, h => by
    have h : (decide (ds.length ≤ m) && okHs m ds) = true := h
    rw [Bool.and_eq_true] at h
    show (decide (ds.length ≤ k) && okHs k ds) = true
    rw [decide_eq_true (Nat.le_trans (of_decide_eq_true h.1) hk), okHs_mono hk ds h.2]
    rfl
  | .dk ks ds, h => h
  | .dt _ _, h => by cases h
  | .scr _, h => by cases h
  | .ty _, h => by cases h
  | .own _, h => by cases h
  | .exc _, h => by cases h
  | .mt _, h => by cases h
  | .st, h => by cases h
theorem okHs_mono {m k : Nat} (hk : m ≤ k) : ∀ ds : List D, okHs m ds = true → okHs k ds = true
  | [], _ => rfl
  | d :: ds, h => by
    have h : (okH m d && okHs m ds) = true := h
    rw [Bool.and_eq_true] at h
    show (okH k d && okHs k ds) = true
    rw [okH_mono hk d h.1, okHs_mono hk ds h.2]
    rfl
end
theorem okH_int (m : Nat) (i : Int) : okH m (.int i) = true := rfl
theorem okH_tI {m : Nat} {t : List Int} (h : t.length ≤ m) : okH m (tI t) = true := okH_tup.mpr ⟨by rw [List.length_map]; exact h, fun d hd => by
  obtain ⟨i, _, rfl⟩ := List.mem_map.mp hd
  rfl⟩
/-! ### rows in order -/
theorem ltL_trans {a b c : List Int} (h1 : ltL a b) (h2 : ltL b c) : ltL a c := by
  unfold ltL at *
  cases e : HT.lexLt a c with
  | true => rfl
  | false =>
    have a1 := lex_asym a b h1
    have := lex_tr c a b e a1
    rw [h2] at this
    cases this
theorem adj_sorted : ∀ {ts : List (List Int)}, (∀ i, i + 1 < ts.length → ltL (ts.getD i []) (ts.getD (i + 1) [])) → ts.Pairwise ltL
  | [], _ => .nil
  | [x], _ => by simp
  | x :: y :: ts, h => by
    have ih := adj_sorted (ts := y :: ts) fun i hi => by
      have := h (i + 1) (by simp only [List.length_cons] at hi ⊢; omega)
      exact this
    have h0 : ltL x y := h 0 (by simp only [List.length_cons]; omega)
    refine List.pairwise_cons.mpr ⟨fun z hz => ?_, ih⟩
    rcases List.mem_cons.mp hz with rfl | hz
    · exact h0
    · exact ltL_trans h0 ((List.pairwise_cons.mp ih).1 z hz)
theorem sorted_adj {ts : List (List Int)} (h : ts.Pairwise ltL) (i : Nat) (hi : i + 1 < ts.length) : ltL (ts.getD i []) (ts.getD (i + 1) []) := by
  have := List.pairwise_iff_getElem.mp h i (i + 1) (by omega) hi (by omega)
  rw [List.getD_eq_getElem?_getD, List.getD_eq_getElem?_getD, List.getElem?_eq_getElem hi, List.getElem?_eq_getElem (by omega)]
  exact this
theorem putAll_mem : ∀ {kvs : List (List Int × D)} {a : List (List Int) × List D} {x : List Int}, x ∈ (putAll kvs a).1 ↔ x ∈ a.1 ∨ x ∈ kvs.map (·.1)
  | [], a, x => by simp [putAll]
  | p :: kvs, a, x => by
    show x ∈ (putAll kvs (putD a.1 a.2 p.1 p.2)).1 ↔ _
    rw [putAll_mem, List.map_cons, List.mem_cons]
    unfold putD
    split
    · rename_i h
      have hp : p.1 ∈ a.1 := by simpa using h
      constructor
      · rintro (h | h)
        · exact .inl h
        · exact .inr (.inr h)
      · rintro (h | rfl | h)
        · exact .inl h
        · exact .inl hp
        · exact .inr h
    · show x ∈ a.1 ++ [p.1] ∨ _ ↔ _
      rw [List.mem_append, List.mem_singleton, or_assoc]
theorem wLcL_okM {j : Nat} {wt : DT} {we : DX} {Γ : Gam} {μ : Mem} {R : List D → Mem → Prop} (g : D → D) (c : D → Bool) : ∀ (ds acc : List D),
    (∀ x ∈ ds, ∀ acc (Q : Bool → Mem → Prop), Q (c x) (μ ++ [Cell.lst acc]) → wt (Γ.set j (some x)) (μ ++ [Cell.lst acc]) Q Z0) → (∀ x ∈ ds, c x = true → (g x).pure = true ∧ ∀ acc (Q : RD), Q (g x) (μ ++ [Cell.lst acc]) → we (Γ.set j (some x)) (μ ++ [Cell.lst acc]) Q Z0) →
    R (acc ++ (ds.filter c).map g) μ → wLcL (tfN j) wt we ds acc Γ μ R
  | [], acc, _, _, r => by
    simp only [List.filter_nil, List.map_nil, List.append_nil] at r
    exact r
  | x :: xs, acc, ht, he, r => by
    show wt (Γ.set j (some x)) (μ ++ [Cell.lst acc]) _ Z0
    refine ht x (List.mem_cons_self ..) _ _ ⟨rfl, ?_⟩
    have ht' := fun y (h : y ∈ xs) => ht y (List.mem_cons_of_mem _ h)
    have he' := fun y (h : y ∈ xs) => he y (List.mem_cons_of_mem _ h)
    cases hc : c x with
    | false =>
      rw [if_neg (by decide)]
      refine wLcL_okM g c xs acc ht' he' ?_
      rw [List.filter_cons_of_neg (by rw [hc]; decide)] at r
      exact r
    | true =>
      rw [if_pos rfl]
      obtain ⟨p, h⟩ := he x (List.mem_cons_self ..) hc
      refine h _ _ ⟨rfl, p, wLcL_okM g c xs (acc ++ [g x]) ht' he' ?_⟩
      rw [List.filter_cons_of_pos hc, List.map_cons] at r
      rw [List.append_assoc]
      exact r
theorem filt_map {β : Type} (f : β → D) (c : D → Bool) (ls : List β) : (ls.map f).filter c = (ls.filter fun b => c (f b)).map f := by
  rw [List.filter_map]
  rfl
theorem filt_none {β : Type} {c : β → Bool} {ls : List β} : ls.filter c = [] ↔ ∀ b ∈ ls, c b = false := by
  rw [List.filter_eq_nil_iff]
  constructor
  · intro h b hb
    have := h b hb
    simpa using this
  · intro h b hb
    rw [h b hb]
    decide
theorem isgrp_of {n : Nat} {ts : List (List Int)} (n2 : 2 ≤ n) (n5 : n ≤ 5) (tt : ∀ t ∈ ts, Tn n t) (h1 : ts.Pairwise ltL) (h2 : rgL n ∈ ts) (h3 : ∀ t ∈ ts, ∀ u ∈ ts, putL t u ∈ ts) : IsGrp n (.tup (ts.map tI)) :=
  ⟨ts, rfl, tt, h1, fun t => ⟨fun h => Cl.gen (tt t h) h, fun c => Cl.all (P := fun x => x ∈ ts) h2 (fun t g ht hg => h3 t ht g hg) c⟩⟩
structure GrpHas (n : Nat) (ts : List (List Int)) : Prop where
  srt : ts.Pairwise ltL
  e : rgL n ∈ ts
  first : ts.getD 0 [] = rgL n
  cl : ∀ t ∈ ts, ∀ u ∈ ts, putL t u ∈ ts
theorem grp_has {n : Nat} {ts : List (List Int)} (h : IsGrp n (.tup (ts.map tI))) : GrpHas n ts := by
  obtain ⟨ts', e1, tt, h1, h2⟩ := h
  have e1 := rows_inj (D.tup.inj e1)
  subst e1
  have he : rgL n ∈ ts := (h2 _).mpr .e
  refine ⟨h1, he, ?_, fun t ht u hu => (h2 _).mpr (.s ((h2 t).mp ht) hu)⟩
  cases ts with
  | nil => cases he
  | cons t ts =>
    show t = rgL n
    rcases List.mem_cons.mp he with h | h
    · exact h.symm
    · have := (List.pairwise_cons.mp h1).1 _ h
      have l := e_least (tt t (List.mem_cons_self ..))
      unfold ltL at this
      rw [l] at this
      cases this
theorem atI_rows {ts : List (List Int)} {i : Nat} (h : i < ts.length) : atI (ts.map tI) (i : Int) = some (tI (ts.getD i [])) := by
  refine atI_in (by omega) ?_
  rw [Int.toNat_natCast, List.getElem?_map, List.getElem?_eq_getElem h, List.getD_eq_getElem?_getD, List.getElem?_eq_getElem h]
  rfl
theorem rg1_map (n : Nat) : rgD 1 (n : Int) = ((List.range (n - 1)).map fun (i : Nat) => ((i : Int) + 1)).map D.int := by
  rw [rgD_ints]
  have : ((n : Int) - 1).toNat = n - 1 := by omega
  rw [this]
  congr 1
  apply List.map_congr_left
  intro i _
  omega
end TC

set_option Elab.async false
set_option linter.all false
set_option maxRecDepth 100000
set_option maxHeartbeats 4000000
namespace TC
open PySem PySem.Spec PyProof.Rows L2
/-! ### letters, their bounds -/
def letOk (m : Nat) (l : D) : Prop := ∃ p : Nat × Int, l = .tup [.int (p.1 : Int), .int p.2] ∧ p.1 < m ∧ (p.2 = 1 ∨ p.2 = -1)
def prOk (m : Nat) (w : List D) : Prop := ∃ ps : List (Nat × Int), w = ps.map (fun p => D.tup [.int (p.1 : Int), .int p.2]) ∧ ∀ p ∈ ps, p.1 < m ∧ (p.2 = 1 ∨ p.2 = -1)
theorem prOk.snoc {m : Nat} {w : List D} {l : D} (h : prOk m w) (hl : letOk m l) : prOk m (w ++ [l]) := by
  obtain ⟨ps, rfl, q⟩ := h
  obtain ⟨p, rfl, r⟩ := hl
  refine ⟨ps ++ [p], by rw [List.map_append]; rfl, fun x hx => ?_⟩
  rcases List.mem_append.mp hx with hx | hx
  · exact q x hx
  · rw [List.mem_singleton.mp hx]
    exact r
theorem setD_all {P : D → Prop} {a : List (List Int) × List D} {k : List Int} {d : D} (h : ∀ x ∈ a.2, P x) (hd : P d) : ∀ x ∈ (setD a k d).2, P x := by
  unfold setD
  split
  · exact h
  · intro x hx
    rcases List.mem_append.mp hx with hx | hx
    · exact h x hx
    · rw [List.mem_singleton.mp hx]
      exact hd
theorem lettersF_let (m : Nat) : ∀ (ts : List (List Int)) (i : Nat) (a : List (List Int) × List D), i + ts.length ≤ m → (∀ x ∈ a.2, letOk m x) → ∀ x ∈ (lettersF i ts a).2, letOk m x
  | [], _, _, _, h => h
  | t :: ts, i, a, hl, h => by
    rw [List.length_cons] at hl
    refine lettersF_let m ts (i + 1) _ (by omega) (setD_all (setD_all h ?_) ?_)
    · exact ⟨(i, -1), rfl, by show i < m; omega, .inr rfl⟩
    · exact ⟨(i, 1), rfl, by show i < m; omega, .inl rfl⟩
theorem wordAt_mem6 {s : Wst} {t : List Int} (hl : s.ws.length = s.ks.length) (h : t ∈ s.ks) : wordAt s t ∈ s.ws := by
  have lt := List.idxOf_lt_length_of_mem h
  unfold wordAt
  rw [List.getD_eq_getElem?_getD, List.getElem?_eq_getElem (by omega)]
  exact List.getElem_mem (by omega)
theorem stepW_pr {m : Nat} {s : Wst} {t g : List Int} {l : D} (hl : s.ws.length = s.ks.length) (ht : t ∈ s.ks) (h : ∀ w ∈ s.ws, prOk m w) (ok : letOk m l) : (∀ w ∈ (stepW t g l s).ws, prOk m w) ∧ (stepW t g l s).ws.length = (stepW t g l s).ks.length ∧ ∀ x ∈ s.ks, x ∈ (stepW t g l s).ks := by
  unfold stepW
  split
  · exact ⟨h, hl, fun x hx => hx⟩
  · refine ⟨fun w hw => ?_, by simp [hl], fun x hx => List.mem_append_left _ hx⟩
    rcases List.mem_append.mp hw with hw | hw
    · exact h w hw
    · rw [List.mem_singleton.mp hw]
      exact (h _ (wordAt_mem6 hl ht)).snoc ok
theorem inF_pr {m : Nat} {t : List Int} : ∀ (ls : List (List Int × D)) (s : Wst), s.ws.length = s.ks.length → t ∈ s.ks → (∀ w ∈ s.ws, prOk m w) → (∀ p ∈ ls, letOk m p.2) → (∀ w ∈ (inF t ls s).ws, prOk m w) ∧ (inF t ls s).ws.length = (inF t ls s).ks.length ∧ ∀ x ∈ s.ks, x ∈ (inF t ls s).ks
  | [], s, hl, _, h, _ => ⟨h, hl, fun x hx => hx⟩
  | (g, l) :: ls, s, hl, ht, h, ok => by
    obtain ⟨a, b, c⟩ := stepW_pr (g := g) hl ht h (ok _ (List.mem_cons_self ..))
    obtain ⟨a', b', c'⟩ := inF_pr ls (stepW t g l s) b (c t ht) a fun p hp => ok p (List.mem_cons_of_mem _ hp)
    exact ⟨a', b', fun x hx => c' x (c x hx)⟩
theorem rowF_pr {m : Nat} {ls : List (List Int × D)} (ok : ∀ p ∈ ls, letOk m p.2) : ∀ (row : List (List Int)) (s : Wst), s.ws.length = s.ks.length → (∀ t ∈ row, t ∈ s.ks) → (∀ w ∈ s.ws, prOk m w) → ∀ w ∈ (rowF ls row s).ws, prOk m w
  | [], _, _, _, h => h
  | t :: row, s, hl, hr, h => by
    obtain ⟨a, b, c⟩ := inF_pr ls s hl (hr t (List.mem_cons_self ..)) h ok
    exact rowF_pr ok row (inF t ls s) b (fun x hx => c x (hr x (List.mem_cons_of_mem _ hx))) a
theorem stepW_at {s : Wst} {t g x : List Int} {l : D} (hl : s.ws.length = s.ks.length) (hx : x ∈ s.ks) : wordAt (stepW t g l s) x = wordAt s x ∧ (stepW t g l s).ws.length = (stepW t g l s).ks.length ∧ ∀ y ∈ s.ks, y ∈ (stepW t g l s).ks := by
  unfold stepW
  split
  · exact ⟨rfl, hl, fun y h => h⟩
  · refine ⟨?_, by simp [hl], fun y h => List.mem_append_left _ h⟩
    have lt := List.idxOf_lt_length_of_mem hx
    show (s.ws ++ [_]).getD ((s.ks ++ [_]).idxOf x) [] = s.ws.getD (s.ks.idxOf x) []
    rw [List.idxOf_append, if_pos hx, List.getD_eq_getElem?_getD, List.getD_eq_getElem?_getD, List.getElem?_append_left (by omega)]
theorem inF_at {t x : List Int} : ∀ (ls : List (List Int × D)) (s : Wst), s.ws.length = s.ks.length → x ∈ s.ks → wordAt (inF t ls s) x = wordAt s x ∧ (inF t ls s).ws.length = (inF t ls s).ks.length ∧ ∀ y ∈ s.ks, y ∈ (inF t ls s).ks
  | [], s, hl, _ => ⟨rfl, hl, fun y h => h⟩
  | (g, l) :: ls, s, hl, hx => by
    obtain ⟨a, b, c⟩ := stepW_at (t := t) (g := g) (l := l) hl hx
    obtain ⟨a', b', c'⟩ := inF_at (t := t) ls (stepW t g l s) b (c x hx)
    exact ⟨a'.trans a, b', fun y h => c' y (c y h)⟩
theorem rowF_at {x : List Int} {ls : List (List Int × D)} : ∀ (row : List (List Int)) (s : Wst), s.ws.length = s.ks.length → x ∈ s.ks → wordAt (rowF ls row s) x = wordAt s x
  | [], _, _, _ => rfl
  | t :: row, s, hl, hx => by
    obtain ⟨a, b, c⟩ := inF_at (t := t) ls s hl hx
    exact (rowF_at row (inF t ls s) b (c x hx)).trans a
theorem pure_letters_of (K : PySem.W.Frag) (A : Adr) (ds : List D) (μ : Mem) (R : D → Mem → Prop) (Z : Addr → Mem → Prop) (hl : ds.length = 1) (h : s6_letters_of A ds μ R Z) : w_letters_of K A (gam0 4 ds) μ ⟨fun _ μ1 => R .non μ1, R, fun _ _ => False, fun _ _ => False, fun cl _ μ1 => Z cl μ1⟩ := by
  obtain ⟨x, ts, n, rfl, hx, h1, h2, r⟩ := h
  rcases hx with ⟨k, rfl, hk⟩ | rfl
  · have kl : k < μ.length := (List.getElem?_eq_some_iff.mp hk).1
    simp only [w_letters_of, wOrS, wForEnM, wDictM, wFrzD, wSeq, wNext, wRet, wDrop, wAsg, wPar, wIf, wBrk, wCnt, wRaise, wIte, wAndV, wOrV, wNotV, wNeg, wAnd, wOr, wNot, wTest, wCB, wCons, wNil, wVar, wC, wBin, wTup, wLst, wLstM, wFrz, wIsN, wOrL, wDict0, wIt, wRng1, wRng2, wMeth, wMethT, wNoP, wPt, wSl, wRev, wRgs, fTupR, fLstR, fLstRM, rgM, wCall, wYes, bOf, gam0, List.map_cons, List.map_nil, List.length_cons, List.length_nil, List.replicate, List.cons_append, List.nil_append, List.append_nil, List.getElem?_cons_zero, List.getElem?_cons_succ, List.set_cons_zero, List.set_cons_succ, Nat.add_sub_cancel, Nat.sub_self, Nat.sub_zero, Nat.reduceAdd, Nat.reduceSub, Nat.zero_add, if_true, if_false, Bool.false_eq_true, Bool.not_true, Bool.not_false, true_and, and_true, pures, D.pure, Bool.and_true, Bool.true_and]
    refine .inl ⟨_, by rw [List.getElem?_append_left kl]; exact hk, ?_⟩
    rw [enumD_rows]
    refine wForPML_go (fun r Γ μ' => ∃ (i : Nat) (rest : List (List Int)) (a : List (List Int) × List D) (d2 d3 : Option D), r = enR i rest ∧ Γ = [some (.mt k), some (.mt μ.length), d2, d3] ∧ μ' = μ ++ [.dt a.1 a.2] ∧ lettersF i rest a = lettersF 0 ts ([], []) ∧ a.1.length = a.2.length ∧ a.1.length + 2 * rest.length ≤ 2000 ∧ ∀ t ∈ rest, Tn n t) ?_ ?_ ?_ _ _ _ ⟨0, ts, ([], []), _, _, rfl, rfl, rfl, rfl, rfl, by simp; omega, h2⟩
    · rintro r' Γ μ' ⟨i, rest, a, d2, d3, _, _, rfl, _⟩
      rw [List.getElem?_append_left kl]
      exact hk
    · rintro Γ μ' ⟨i, rest, a, d2, d3, hr, rfl, rfl, e, _⟩
      cases rest with
      | cons t rest => cases hr
      | nil =>
        have e : a = lettersF 0 ts ([], []) := e
        have hm : (μ ++ [Cell.dt a.1 a.2])[μ.length]? = some (.dt a.1 a.2) := by simp
        simp only [hm, wSeq, wNext, wRet, wDrop, wAsg, wPar, wIf, wBrk, wCnt, wRaise, wIte, wAndV, wOrV, wNotV, wNeg, wAnd, wOr, wNot, wTest, wCB, wCons, wNil, wVar, wC, wBin, wTup, wLst, wLstM, wFrz, wIsN, wOrL, wDict0, wIt, wRng1, wRng2, wMeth, wMethT, wNoP, wPt, wSl, wRev, wRgs, fTupR, fLstR, fLstRM, rgM, wCall, wYes, bOf, gam0, List.map_cons, List.map_nil, List.length_cons, List.length_nil, List.replicate, List.cons_append, List.nil_append, List.append_nil, List.getElem?_cons_zero, List.getElem?_cons_succ, List.set_cons_zero, List.set_cons_succ, Nat.add_sub_cancel, Nat.sub_self, Nat.sub_zero, Nat.reduceAdd, Nat.reduceSub, Nat.zero_add, if_true, if_false, Bool.false_eq_true, Bool.not_true, Bool.not_false, true_and, and_true, pures, D.pure, Bool.and_true, Bool.true_and]
        have es : (μ ++ [Cell.dt a.1 a.2]).set μ.length .dead = μ ++ [.dead] := by simp
        rw [es, e]
        exact r
    · rintro x r' Γ μ' ⟨i, rest, a, d2, d3, hr, rfl, rfl, e, hla, hln, ht⟩ nx hnx
      cases rest with
      | nil => cases hr
      | cons t rest =>
        have hr : x :: r' = (.int (i : Int), tI t) :: enR (i + 1) rest := hr
        obtain ⟨hx, hr2⟩ := List.cons.inj hr
        clear hr
        subst hx hr2
        have tt := ht t (List.mem_cons_self ..)
        have t5 := tt.bd
        have hm : ∀ b : List (List Int) × List D, (μ ++ [Cell.dt b.1 b.2])[μ.length]? = some (.dt b.1 b.2) := fun b => by simp
        have hs : ∀ b c : List (List Int) × List D, (μ ++ [Cell.dt b.1 b.2]).set μ.length (.dt c.1 c.2) = μ ++ [Cell.dt c.1 c.2] := fun b c => by simp
        have l1 := setD_len (t := backL t) (d := .tup [.int (i : Int), .int (-1)]) hla
        have l2 := setD_len (t := t) (d := .tup [.int (i : Int), .int 1]) l1.1
        simp only [List.length_cons] at hln
        simp only [wSeq, wDrop, wNext]
        refine wSetd_it (m := μ.length) (y := tI (backL t)) (d := .tup [.int (i : Int), .int (-1)]) (fun Q q => q) (fun Q q => ?_) (fun Q q => ?_) (keyD_tI _) (hm a) hla (by unfold big; omega) fun d' => ?_
        · exact ⟨⟨rfl, pures1 t⟩, t, rfl, fun j hj => (tOk_iff.mp tt.1).2 j hj, by rw [tt.2]; omega, q⟩
        · exact ⟨by show 2 ≤ big; decide, q⟩
        rw [hs]
        refine wSetd_it (m := μ.length) (y := tI t) (d := .tup [.int (i : Int), .int 1]) (fun Q q => q) (fun Q q => q) (fun Q q => ⟨by show 2 ≤ big; decide, q⟩) (keyD_tI _) (hm _) l1.1 (by unfold big; omega) fun d' => ?_
        rw [hs]
        exact hnx _ _ ⟨i + 1, rest, _, _, _, rfl, rfl, rfl, e, l2.1, by omega, fun t' h' => ht t' (List.mem_cons_of_mem _ h')⟩
  · obtain ⟨a1, a2, _, _⟩ := lettersF_ok ts 0 ([], []) rfl rfl
    have hs : ∀ (P : Post) (Γ : Gam) (μ : Mem) (b : DS), Γ[0]? = some (some (.lst (ts.map tI))) → (wForPL 2 3 b (enumD (ts.map tI)) Γ μ P) → wForP 2 3 (wEnumS (wCons (wVar 0) wNil)) b Γ μ P := fun P Γ μ b hΓ q => by
      unfold wForP wEnumS wCons wVar wNil
      simp only [hΓ]
      exact q
    unfold w_letters_of
    simp only [wSeq, wAsg, wDictM, wOrS]
    refine .inr (hs _ _ _ _ rfl ?_)
    rw [enumD_rows]
    refine wForPL_go (fun r Γ μ' => ∃ (i : Nat) (rest : List (List Int)) (a : List (List Int) × List D) (d2 d3 : Option D), r = enR i rest ∧ Γ = [some (.lst (ts.map tI)), some (.mt μ.length), d2, d3] ∧ μ' = μ ++ [.dt a.1 a.2] ∧ lettersF i rest a = lettersF 0 ts ([], []) ∧ a.1.length = a.2.length ∧ a.1.length + 2 * rest.length ≤ 2000 ∧ ∀ t ∈ rest, Tn n t) ?_ ?_ _ _ _ ⟨0, ts, ([], []), _, _, rfl, rfl, rfl, rfl, rfl, by simp; omega, h2⟩
    · rintro Γ μ' ⟨i, rest, a, d2, d3, hr, rfl, rfl, e, _⟩
      cases rest with
      | cons t rest => cases hr
      | nil =>
        have e : a = lettersF 0 ts ([], []) := e
        have hm : (μ ++ [Cell.dt a.1 a.2])[μ.length]? = some (.dt a.1 a.2) := by simp
        simp only [hm, wFrzD, wSeq, wNext, wRet, wDrop, wAsg, wPar, wIf, wBrk, wCnt, wRaise, wIte, wAndV, wOrV, wNotV, wNeg, wAnd, wOr, wNot, wTest, wCB, wCons, wNil, wVar, wC, wBin, wTup, wLst, wLstM, wFrz, wIsN, wOrL, wDict0, wIt, wRng1, wRng2, wMeth, wMethT, wNoP, wPt, wSl, wRev, wRgs, fTupR, fLstR, fLstRM, rgM, wCall, wYes, bOf, gam0, List.map_cons, List.map_nil, List.length_cons, List.length_nil, List.replicate, List.cons_append, List.nil_append, List.append_nil, List.getElem?_cons_zero, List.getElem?_cons_succ, List.set_cons_zero, List.set_cons_succ, Nat.add_sub_cancel, Nat.sub_self, Nat.sub_zero, Nat.reduceAdd, Nat.reduceSub, Nat.zero_add, if_true, if_false, Bool.false_eq_true, Bool.not_true, Bool.not_false, true_and, and_true, pures, D.pure, Bool.and_true, Bool.true_and]
        have es : (μ ++ [Cell.dt a.1 a.2]).set μ.length .dead = μ ++ [.dead] := by simp
        rw [es, e]
        exact r
    · rintro x r' Γ μ' ⟨i, rest, a, d2, d3, hr, rfl, rfl, e, hla, hln, ht⟩ nx hnx
      cases rest with
      | nil => cases hr
      | cons t rest =>
        have hr : x :: r' = (.int (i : Int), tI t) :: enR (i + 1) rest := hr
        obtain ⟨hx, hr2⟩ := List.cons.inj hr
        clear hr
        subst hx hr2
        have tt := ht t (List.mem_cons_self ..)
        have t5 := tt.bd
        have hm : ∀ b : List (List Int) × List D, (μ ++ [Cell.dt b.1 b.2])[μ.length]? = some (.dt b.1 b.2) := fun b => by simp
        have hs : ∀ b c : List (List Int) × List D, (μ ++ [Cell.dt b.1 b.2]).set μ.length (.dt c.1 c.2) = μ ++ [Cell.dt c.1 c.2] := fun b c => by simp
        have l1 := setD_len (t := backL t) (d := .tup [.int (i : Int), .int (-1)]) hla
        have l2 := setD_len (t := t) (d := .tup [.int (i : Int), .int 1]) l1.1
        simp only [List.length_cons] at hln
        simp only [wSeq, wDrop, wNext]
        refine wSetd_it (m := μ.length) (y := tI (backL t)) (d := .tup [.int (i : Int), .int (-1)]) (fun Q q => q) (fun Q q => ?_) (fun Q q => ?_) (keyD_tI _) (hm a) hla (by unfold big; omega) fun d' => ?_
        · exact ⟨⟨rfl, pures1 t⟩, t, rfl, fun j hj => (tOk_iff.mp tt.1).2 j hj, by rw [tt.2]; omega, q⟩
        · exact ⟨by show 2 ≤ big; decide, q⟩
        rw [hs]
        refine wSetd_it (m := μ.length) (y := tI t) (d := .tup [.int (i : Int), .int 1]) (fun Q q => q) (fun Q q => q) (fun Q q => ⟨by show 2 ≤ big; decide, q⟩) (keyD_tI _) (hm _) l1.1 (by unfold big; omega) fun d' => ?_
        rw [hs]
        exact hnx _ _ ⟨i + 1, rest, _, _, _, rfl, rfl, rfl, e, l2.1, by omega, fun t' h' => ht t' (List.mem_cons_of_mem _ h')⟩
theorem pure_words_of (K : PySem.W.Frag) (A : Adr) (ds : List D) (μ : Mem) (R : D → Mem → Prop) (Z : Addr → Mem → Prop) (hl : ds.length = 2) (h : s6_words_of A ds μ R Z) : w_words_of K A (gam0 5 ds) μ ⟨fun _ μ1 => R .non μ1, R, fun _ _ => False, fun _ _ => False, fun cl _ μ1 => Z cl μ1⟩ := by
  obtain ⟨x, ts, n, rfl, hx, hlen, ⟨n2, n5⟩, tt, r⟩ := h
  have lok := lettersF_let ts.length ts 0 ([], []) (by omega) (fun x h => nomatch h)
  obtain ⟨L1, L2, L3, L4⟩ := lettersF_ok ts 0 ([], []) rfl rfl
  have L3 : ∀ x, x ∈ (lettersF 0 ts ([], [])).1 ↔ x ∈ lets ts := fun x => by rw [L3 x]; simp
  generalize hL : lettersF 0 ts ([], []) = L at *
  simp only [w_words_of, wCallM, wDisp1, wFrzD, wSeq, wNext, wRet, wDrop, wAsg, wPar, wIf, wBrk, wCnt, wRaise, wIte, wAndV, wOrV, wNotV, wNeg, wAnd, wOr, wNot, wTest, wCB, wCons, wNil, wVar, wC, wBin, wTup, wLst, wLstM, wFrz, wIsN, wOrL, wDict0, wIt, wRng1, wRng2, wMeth, wMethT, wNoP, wPt, wSl, wRev, wRgs, fTupR, fLstR, fLstRM, rgM, wCall, wYes, bOf, gam0, List.map_cons, List.map_nil, List.length_cons, List.length_nil, List.replicate, List.cons_append, List.nil_append, List.append_nil, List.getElem?_cons_zero, List.getElem?_cons_succ, List.set_cons_zero, List.set_cons_succ, Nat.add_sub_cancel, Nat.sub_self, Nat.sub_zero, Nat.reduceAdd, Nat.reduceSub, Nat.zero_add, if_true, if_false, Bool.false_eq_true, Bool.not_true, Bool.not_false, true_and, and_true, Bool.and_true, Bool.true_and]
  refine ⟨x, ts, n, rfl, hx, by omega, tt, ?_⟩
  rw [hL]
  refine ⟨rfl, plain_it n2 n5 ?_⟩
  refine ⟨Nat.zero_le _, ?_⟩
  rw [keyD_tI]
  have m0 : (μ ++ [Cell.dead] ++ [Cell.dt [] []]).set (μ ++ [Cell.dead]).length (Cell.dt [rgL n] [D.lst []]) = memW μ ⟨[rgL n], [[]], [rgL n]⟩ [] := by
    unfold memW
    rw [List.set_append_right _ _ (Nat.le_refl _), Nat.sub_self, List.append_assoc]
    rfl
  have m1 : (μ ++ [Cell.dead]).length = μ.length + 1 := by simp
  refine ⟨by rw [List.getElem?_append_right (Nat.le_refl _), Nat.sub_self]; rfl, ?_⟩
  refine ⟨rfl, plain_it n2 n5 ?_⟩
  refine ⟨by decide, ?_⟩
  rw [m0, m1]
  refine ⟨fun m Γ μ' => ∃ (s : Wst) (e : Mem), Γ = [some x, some (.int (n : Int)), some (.dt L.1 L.2), some (.mt (μ.length + 1)), some (.lst (s.fd.map tI))] ∧ μ' = memW μ s e ∧ InvW n (lets ts) s ∧ ((∀ w ∈ s.ws, prOk ts.length w) ∧ wordAt s (rgL n) = []) ∧ m = 2 * (152 - s.ks.length) + (if s.fd = [] then 0 else 1), _, ⟨⟨[rgL n], [[]], [rgL n]⟩, [], rfl, rfl, ?_, ⟨(fun w hw => by rw [List.mem_singleton.mp hw]; exact ⟨[], rfl, fun p h => nomatch h⟩), by unfold wordAt; simp⟩, rfl⟩, ?_⟩
  · have te := Tn.e n2 n5
    refine ⟨⟨rfl, fun w hw => ?_, by simp, fun t ht => ?_⟩, by simp, fun x hx => ?_, fun x hx => hx, Nat.le_refl _, fun x hx => .inl hx⟩
    · rw [List.mem_singleton.mp hw]
      exact ⟨Nat.zero_le _, rfl⟩
    · rw [List.mem_singleton.mp ht]
      exact te
    · rw [List.mem_singleton.mp hx]
      exact .e
  · rintro m Γ μ' ⟨s, e, rfl, rfl, inv, ⟨prs, pl0⟩, rfl⟩
    simp only [wTru, truD, wSeq, wNext, wRet, wDrop, wAsg, wPar, wIf, wBrk, wCnt, wRaise, wIte, wAndV, wOrV, wNotV, wNeg, wAnd, wOr, wNot, wTest, wCB, wCons, wNil, wVar, wC, wBin, wTup, wLst, wLstM, wFrz, wIsN, wOrL, wDict0, wIt, wRng1, wRng2, wMeth, wMethT, wNoP, wPt, wSl, wRev, wRgs, fTupR, fLstR, fLstRM, rgM, wCall, wYes, bOf, gam0, List.map_cons, List.map_nil, List.length_cons, List.length_nil, List.replicate, List.cons_append, List.nil_append, List.append_nil, List.getElem?_cons_zero, List.getElem?_cons_succ, List.set_cons_zero, List.set_cons_succ, Nat.add_sub_cancel, Nat.sub_self, Nat.sub_zero, Nat.reduceAdd, Nat.reduceSub, Nat.zero_add, if_true, if_false, Bool.false_eq_true, Bool.not_true, Bool.not_false, true_and, and_true, Bool.and_true, Bool.true_and]
    cases hf : s.fd with
    | nil =>
      show if (false : Bool) = true then _ else _
      rw [if_neg (by decide)]
      simp only [memW_at, memW_set, wSeq, wNext, wRet, wDrop, wAsg, wPar, wIf, wBrk, wCnt, wRaise, wIte, wAndV, wOrV, wNotV, wNeg, wAnd, wOr, wNot, wTest, wCB, wCons, wNil, wVar, wC, wBin, wTup, wLst, wLstM, wFrz, wIsN, wOrL, wDict0, wIt, wRng1, wRng2, wMeth, wMethT, wNoP, wPt, wSl, wRev, wRgs, fTupR, fLstR, fLstRM, rgM, wCall, wYes, bOf, gam0, List.map_cons, List.map_nil, List.length_cons, List.length_nil, List.replicate, List.cons_append, List.nil_append, List.append_nil, List.getElem?_cons_zero, List.getElem?_cons_succ, List.set_cons_zero, List.set_cons_succ, Nat.add_sub_cancel, Nat.sub_self, Nat.sub_zero, Nat.reduceAdd, Nat.reduceSub, Nat.zero_add, if_true, if_false, Bool.false_eq_true, Bool.not_true, Bool.not_false, true_and, and_true, Bool.and_true, Bool.true_and]
      refine r s.ks s.ws _ ?_ (fun w hw => ⟨by have := (inv.ok.2.1 w hw).1; have := inv.ok.len; omega, prs w hw⟩) pl0
      refine ⟨inv.ok.2.2.1, inv.ok.1, fun t => ⟨inv.cl t, fun c => Cl.all (P := fun x => x ∈ s.ks) inv.e (fun t g ht hg => ?_) c⟩⟩
      rcases inv.done t ht with hd | hd
      · rw [hf] at hd
        cases hd
      · exact hd g hg
    | cons f0 fr =>
      rw [← hf]
      have ht : (!((s.fd.map tI).isEmpty)) = true := by rw [hf]; rfl
      have hc : (if s.fd = [] then 0 else 1) = 1 := by rw [hf]; rfl
      have key : (match truD (D.lst (s.fd.map tI)) (memW μ s e) with | some b => True | none => False) := trivial
      show if (!((s.fd.map tI).isEmpty)) = true then _ else _
      rw [if_pos ht]
      obtain ⟨inv', ext, x1, x2⟩ := inv.next (lets_tn tt) L1 L2 L3
      have lk := inv.ok.len
      have lk' := inv'.ok.len
      refine ⟨rfl, μ.length + 1, s.fd, L.1, L.2, ⟨s.ks, s.ws, []⟩, n, rfl, memW_at, rfl, L1, L2, inv.ok, inv.sub, by have := inv.fl; omega, fun t ht => lets_tn tt t ((L3 t).mp ht), ?_⟩
      rw [memW_next]
      · refine ⟨_, ?_, _, _, rfl, rfl, inv', ⟨rowF_pr (fun p hp => lok _ (List.of_mem_zip hp).2) _ _ inv.ok.1 inv.sub prs, (rowF_at s.fd ⟨s.ks, s.ws, []⟩ inv.ok.1 inv.e).trans pl0⟩, rfl⟩
        rw [hc]
        rw [x1, List.length_append] at lk' ⊢
        rw [x2]
        cases ext with
        | nil => simp
        | cons a b =>
          rw [if_neg (by simp)]
          simp only [List.length_cons] at lk' ⊢
          omega
end TC

set_option Elab.async false
set_option linter.all false
set_option maxRecDepth 100000
set_option maxHeartbeats 4000000
namespace TC
open PySem PySem.Spec PyProof.Rows L2
section
variable {n : Nat} {ts g h : List (List Int)} {t x y : List Int}
theorem put_cancel6 (ht : Tn n t) (hx : Tn n x) (hy : Tn n y) (h : putL t x = putL t y) : x = y := by
  have e : ∀ {z : List Int}, Tn n z → putL (backL t) (putL t z) = z := fun {z} hz => by
    rw [← ht.asc hz, back_put ht.1, ht.2, hz.ep]
  rw [← e hx, ← e hy, h]
theorem GrpOk.tn (G : GrpOk n ts g) (n2 : 2 ≤ n) (n5 : n ≤ 5) (tt : ∀ t ∈ ts, Tn n t) : ∀ t ∈ g, Tn n t := fun t ht => Cl.tn n2 n5 tt ((G.2 t).mp ht)
theorem GrpOk.mul (G : GrpOk n ts g) (n2 : 2 ≤ n) (n5 : n ≤ 5) (tt : ∀ t ∈ ts, Tn n t) (hx : x ∈ g) (hy : y ∈ g) : putL x y ∈ g :=
  (G.2 _).mpr (Cl.mul tt ((G.2 x).mp hx) (G.tn n2 n5 tt x hx) ((G.2 y).mp hy))
theorem GrpOk.bk (G : GrpOk n ts g) (n2 : 2 ≤ n) (n5 : n ≤ 5) (tt : ∀ t ∈ ts, Tn n t) (hx : x ∈ g) : backL x ∈ g :=
  (G.2 _).mpr (Cl.bk tt (G.tn n2 n5 tt x hx) ((G.2 x).mp hx))
/-- a turn that is new makes a group of twice as many at least -/
theorem twice (n2 : 2 ≤ n) (n5 : n ≤ 5) (tt : ∀ u ∈ ts ++ [t], Tn n u) (G : GrpOk n ts g) (new : t ∉ g) (H : GrpOk n (ts ++ [t]) h) : 2 * g.length ≤ h.length := by
  have t1 : ∀ u ∈ ts, Tn n u := fun u hu => tt u (List.mem_append_left _ hu)
  have t2 : Tn n t := tt t (by simp)
  have gt := G.tn n2 n5 t1
  have sub : ∀ x ∈ g, x ∈ h := fun x hx => (H.2 x).mpr (Cl.sub n2 n5 tt (fun u hu => Cl.gen (t1 u hu) (List.mem_append_left _ hu)) ((G.2 x).mp hx))
  have th : t ∈ h := (H.2 t).mpr (Cl.gen t2 (by simp))
  have nd : (g ++ g.map (putL t)).Nodup := by
    rw [List.nodup_append]
    refine ⟨ltL_nodup G.1, ?_, fun a ha b hb e => ?_⟩
    · rw [List.Nodup, List.pairwise_map]
      have q : g.Pairwise (fun a b => a ∈ g ∧ b ∈ g ∧ a ≠ b) := by
        have q0 := ltL_nodup G.1
        rw [List.Nodup] at q0
        exact List.Pairwise.imp_of_mem (fun ha hb h => ⟨ha, hb, h⟩) q0
      exact q.imp fun ⟨ha, hb, hne⟩ e => hne (put_cancel6 t2 (gt _ ha) (gt _ hb) e)
    · obtain ⟨x, hx, rfl⟩ := List.mem_map.mp hb
      refine new ?_
      have e2 : t = putL a (backL x) := by
        rw [e, (gt x hx).asc (gt x hx).bk, put_back (gt x hx).1, (gt x hx).2, t2.pe]
      rw [e2]
      exact G.mul n2 n5 t1 ha (G.bk n2 n5 t1 hx)
  have le := len_sub nd fun x hx => by
    rcases List.mem_append.mp hx with hx | hx
    · exact sub x hx
    · obtain ⟨y, hy, rfl⟩ := List.mem_map.mp hx
      exact H.mul n2 n5 tt th (sub y hy)
  rw [List.length_append, List.length_map] at le
  omega
end
theorem pure_few_and_all (K : PySem.W.Frag) (A : Adr) (ds : List D) (R : D → Prop) (Z : Addr → Prop) (hl : ds.length = 2) (h : s6_few_and_all A ds R Z) : w_few_and_all K A (gam0 5 ds) [] (Pt R Z) := by
  obtain ⟨x, ts, n, rfl, hx, hlen, ⟨n2, n5⟩, tt, r⟩ := h
  have hi : itemsI x = some (ts.map tI) := by
    rcases hx with rfl | rfl <;> rfl
  have te := Tn.e n2 n5
  simp only [w_few_and_all, wFor, wSeq, wNext, wRet, wDrop, wAsg, wPar, wIf, wBrk, wCnt, wRaise, wIte, wAndV, wOrV, wNotV, wNeg, wAnd, wOr, wNot, wTest, wCB, wCons, wNil, wVar, wC, wBin, wTup, wLst, wLstM, wFrz, wIsN, wOrL, wDict0, wIt, wRng1, wRng2, wMeth, wMethT, wNoP, wPt, wSl, wRev, wRgs, fTupR, fLstR, fLstRM, rgM, wCall, wYes, bOf, gam0, List.map_cons, List.map_nil, List.length_cons, List.length_nil, List.replicate, List.cons_append, List.nil_append, List.append_nil, List.getElem?_cons_zero, List.getElem?_cons_succ, List.set_cons_zero, List.set_cons_succ, Nat.add_sub_cancel, Nat.sub_self, Nat.sub_zero, Nat.reduceAdd, Nat.reduceSub, Nat.zero_add, if_true, if_false, Bool.false_eq_true, Bool.not_true, Bool.not_false, true_and, and_true, Bool.and_true, Bool.true_and]
  refine ⟨Nat.zero_le _, rfl, plain_it n2 n5 ?_⟩
  refine ⟨by decide, ?_⟩
  simp only [hi, wSeq, wNext, wRet, wDrop, wAsg, wPar, wIf, wBrk, wCnt, wRaise, wIte, wAndV, wOrV, wNotV, wNeg, wAnd, wOr, wNot, wTest, wCB, wCons, wNil, wVar, wC, wBin, wTup, wLst, wLstM, wFrz, wIsN, wOrL, wDict0, wIt, wRng1, wRng2, wMeth, wMethT, wNoP, wPt, wSl, wRev, wRgs, fTupR, fLstR, fLstRM, rgM, wCall, wYes, bOf, gam0, List.map_cons, List.map_nil, List.length_cons, List.length_nil, List.replicate, List.cons_append, List.nil_append, List.append_nil, List.getElem?_cons_zero, List.getElem?_cons_succ, List.set_cons_zero, List.set_cons_succ, Nat.add_sub_cancel, Nat.sub_self, Nat.sub_zero, Nat.reduceAdd, Nat.reduceSub, Nat.zero_add, if_true, if_false, Bool.false_eq_true, Bool.not_true, Bool.not_false, true_and, and_true, Bool.and_true, Bool.true_and]
  refine wForL_go (fun r' Γ μ => ∃ (done rest few g : List (List Int)) (e : Mem) (d4 : Option D), r' = rest.map tI ∧ ts = done ++ rest ∧ Γ = [some x, some (.int (n : Int)), some (.mt 0), some (.tup (g.map tI)), d4] ∧ μ = .lst (few.map tI) :: e ∧ (∀ t ∈ few, t ∈ done) ∧ few.length ≤ done.length ∧ GrpOk n few g ∧ 2 ^ few.length ≤ g.length ∧ ∀ t ∈ done, t ∈ g) ?_ ?_ _ _ _ ⟨[], ts, [], [rgL n], [], _, rfl, rfl, rfl, rfl, (fun t h => nomatch h), Nat.le_refl _, ⟨by simp, fun t => ?_⟩, Nat.le_refl _, fun t h => nomatch h⟩
  · rintro Γ μ ⟨done, rest, few, g, e, d4, hr, hts, rfl, rfl, hf, _, hg, h2, hd⟩
    cases rest with
    | cons t rest => cases hr
    | nil =>
      rw [List.append_nil] at hts
      subst hts
      have ft : ∀ t ∈ few, Tn n t := fun t ht => tt t (hf t ht)
      simp only [fFrz, wSeq, wNext, wRet, wDrop, wAsg, wPar, wIf, wBrk, wCnt, wRaise, wIte, wAndV, wOrV, wNotV, wNeg, wAnd, wOr, wNot, wTest, wCB, wCons, wNil, wVar, wC, wBin, wTup, wLst, wLstM, wFrz, wIsN, wOrL, wDict0, wIt, wRng1, wRng2, wMeth, wMethT, wNoP, wPt, wSl, wRev, wRgs, fTupR, fLstR, fLstRM, rgM, wCall, wYes, bOf, gam0, List.map_cons, List.map_nil, List.length_cons, List.length_nil, List.replicate, List.cons_append, List.nil_append, List.append_nil, List.getElem?_cons_zero, List.getElem?_cons_succ, List.set_cons_zero, List.set_cons_succ, Nat.add_sub_cancel, Nat.sub_self, Nat.sub_zero, Nat.reduceAdd, Nat.reduceSub, Nat.zero_add, if_true, if_false, Bool.false_eq_true, Bool.not_true, Bool.not_false, true_and, and_true, Bool.and_true, Bool.true_and]
      refine ⟨by decide, ?_, r few g hf (hg.of fun t => ⟨Cl.sub n2 n5 tt fun g hg => Cl.gen (ft g hg) (hf g hg), Cl.sub n2 n5 ft fun u hu => (hg.2 u).mp (hd u hu)⟩) hg h2⟩
      show (pures (few.map tI) && (pures (g.map tI) && true)) = true
      rw [pures_rows, pures_rows]
      rfl
  · rintro y r' Γ μ ⟨done, rest, few, g, e, d4, hr, hts, rfl, rfl, hf, hfl, hg, h2, hd⟩ nx hnx
    cases rest with
    | nil => cases hr
    | cons t rest =>
      obtain ⟨hx1, hr2⟩ := List.cons.inj (hr : y :: r' = tI t :: rest.map tI)
      clear hr
      subst hx1 hr2
      have tin : t ∈ ts := by rw [hts]; simp
      have hts' : ts = done ++ [t] ++ rest := by rw [hts]; simp
      have hlt : done.length < 1000 := by
        have := congrArg List.length hts
        rw [List.length_append, List.length_cons] at this
        omega
      have ft : ∀ u ∈ few ++ [t], Tn n u := fun u hu => by
        rcases List.mem_append.mp hu with hu | hu
        · exact tt u (by rw [hts]; exact List.mem_append_left _ (hf u hu))
        · rw [List.mem_singleton.mp hu]
          exact tt t tin
      have e1 := eqOk_tI t
      have e2 := eqOk_rowsT g
      have e3 := any_rows g t
      simp only [tI] at e1 e3
      simp only [dInP, res, tI, e1, e2, e3, wSeq, wNext, wRet, wDrop, wAsg, wPar, wIf, wBrk, wCnt, wRaise, wIte, wAndV, wOrV, wNotV, wNeg, wAnd, wOr, wNot, wTest, wCB, wCons, wNil, wVar, wC, wBin, wTup, wLst, wLstM, wFrz, wIsN, wOrL, wDict0, wIt, wRng1, wRng2, wMeth, wMethT, wNoP, wPt, wSl, wRev, wRgs, fTupR, fLstR, fLstRM, rgM, wCall, wYes, bOf, gam0, List.map_cons, List.map_nil, List.length_cons, List.length_nil, List.replicate, List.cons_append, List.nil_append, List.append_nil, List.getElem?_cons_zero, List.getElem?_cons_succ, List.set_cons_zero, List.set_cons_succ, Nat.add_sub_cancel, Nat.sub_self, Nat.sub_zero, Nat.reduceAdd, Nat.reduceSub, Nat.zero_add, if_true, if_false, Bool.false_eq_true, Bool.not_true, Bool.not_false, true_and, and_true, Bool.and_true, Bool.true_and]
      by_cases hin : t ∈ g
      · rw [decide_eq_true hin, if_neg (by decide)]
        refine hnx _ _ ⟨done ++ [t], rest, few, g, e, _, rfl, hts', rfl, rfl, fun u hu => List.mem_append_left _ (hf u hu), by rw [List.length_append]; omega, hg, h2, fun u hu => ?_⟩
        rcases List.mem_append.mp hu with hu | hu
        · exact hd u hu
        · rw [List.mem_singleton.mp hu]
          exact hin
      · rw [decide_eq_false hin, if_pos (by decide)]
        simp only [isLst, dAppend, wCallM, wSeq, wNext, wRet, wDrop, wAsg, wPar, wIf, wBrk, wCnt, wRaise, wIte, wAndV, wOrV, wNotV, wNeg, wAnd, wOr, wNot, wTest, wCB, wCons, wNil, wVar, wC, wBin, wTup, wLst, wLstM, wFrz, wIsN, wOrL, wDict0, wIt, wRng1, wRng2, wMeth, wMethT, wNoP, wPt, wSl, wRev, wRgs, fTupR, fLstR, fLstRM, rgM, wCall, wYes, bOf, gam0, List.map_cons, List.map_nil, List.length_cons, List.length_nil, List.replicate, List.cons_append, List.nil_append, List.append_nil, List.getElem?_cons_zero, List.getElem?_cons_succ, List.set_cons_zero, List.set_cons_succ, Nat.add_sub_cancel, Nat.sub_self, Nat.sub_zero, Nat.reduceAdd, Nat.reduceSub, Nat.zero_add, if_true, if_false, Bool.false_eq_true, Bool.not_true, Bool.not_false, true_and, and_true, Bool.and_true, Bool.true_and]
        refine ⟨by rw [List.length_map]; unfold big; omega, ?_⟩
        have ef : few.map tI ++ [D.tup (t.map D.int)] = (few ++ [t]).map tI := by
          rw [List.map_append]
          rfl
        refine ⟨.mt 0, few ++ [t], n, rfl, .inl ⟨0, rfl, ?_⟩, by rw [List.length_append, List.length_singleton]; omega, ⟨n2, n5⟩, ft, fun ks ws e' wk _ _ => ?_⟩
        · show some (Cell.lst (few.map tI ++ [D.tup (t.map D.int)])) = _
          rw [ef]
        · obtain ⟨wn, wl, wm⟩ := wk
          have km : ∀ k, k ∈ ks ↔ Cl n (few ++ [t]) k := fun k => (wm k).trans (Cl.lets n2 n5 ft)
          simp only [dSortDI, dtOf, dTupOf, items, wSeq, wNext, wRet, wDrop, wAsg, wPar, wIf, wBrk, wCnt, wRaise, wIte, wAndV, wOrV, wNotV, wNeg, wAnd, wOr, wNot, wTest, wCB, wCons, wNil, wVar, wC, wBin, wTup, wLst, wLstM, wFrz, wIsN, wOrL, wDict0, wIt, wRng1, wRng2, wMeth, wMethT, wNoP, wPt, wSl, wRev, wRgs, fTupR, fLstR, fLstRM, rgM, wCall, wYes, bOf, gam0, List.map_cons, List.map_nil, List.length_cons, List.length_nil, List.replicate, List.cons_append, List.nil_append, List.append_nil, List.getElem?_cons_zero, List.getElem?_cons_succ, List.set_cons_zero, List.set_cons_succ, Nat.add_sub_cancel, Nat.sub_self, Nat.sub_zero, Nat.reduceAdd, Nat.reduceSub, Nat.zero_add, if_true, if_false, Bool.false_eq_true, Bool.not_true, Bool.not_false, true_and, and_true, Bool.and_true, Bool.true_and]
          refine ⟨fun k hk => ?_, fun ks' p1 p2 => ?_⟩
          · have tk := Cl.tn n2 n5 ft ((km k).mp hk)
            intro q
            rw [q] at tk
            have := tk.2
            simp at this
            omega
          · have g' : GrpOk n (few ++ [t]) ks' := ⟨ltL_sorted (p1.nodup_iff.mpr wn) p2, fun k => p1.mem_iff.trans (km k)⟩
            refine hnx _ _ ⟨done ++ [t], rest, few ++ [t], ks', e ++ e', _, rfl, hts', rfl, ?_, fun u hu => ?_, by simp only [List.length_append]; omega, g', by have := twice n2 n5 ft hg hin g'; rw [List.length_append, List.length_singleton, Nat.pow_succ]; omega, fun u hu => ?_⟩
            · show Cell.lst (few.map tI ++ [D.tup (t.map D.int)]) :: (e ++ e') = _
              rw [ef]
            · rcases List.mem_append.mp hu with hu | hu
              · exact List.mem_append_left _ (hf u hu)
              · exact List.mem_append_right _ hu
            · rcases List.mem_append.mp hu with hu | hu
              · exact (g'.2 u).mpr (Cl.sub n2 n5 ft (fun v hv => Cl.gen (ft v (List.mem_append_left _ hv)) (List.mem_append_left _ hv)) ((hg.2 u).mp (hd u hu)))
              · rw [List.mem_singleton.mp hu]
                exact (g'.2 t).mpr (Cl.gen (tt t tin) (List.mem_append_right _ (List.mem_singleton_self _)))
  · constructor
    · intro h
      rw [List.mem_singleton.mp h]
      exact .e
    · intro h
      rw [List.mem_singleton]
      exact Cl.all (P := fun x => x = rgL n) rfl (fun t g _ hg => absurd hg (by simp)) h
theorem few_it6 {A : Adr} {x : D} {ts : List (List Int)} {n : Nat} {Q : D → Mem → Prop} {μ : Mem} {Z : Addr → Prop} (hx : isRow x ts) (hlen : ts.length ≤ 1000) (n2 : 2 ≤ n) (n5 : n ≤ 5) (tt : ∀ t ∈ ts, Tn n t) (q : ∀ g, GrpOk n ts g → Q (.tup (g.map tI)) μ) :
    s6_few_and_all A [x, .int n] (fun d => dIx d (.int 1) μ Q) Z := by
  refine ⟨x, ts, n, rfl, hx, hlen, ⟨n2, n5⟩, tt, fun few g _ hg _ _ => ?_⟩
  show Q (.tup (g.map tI)) μ
  exact q g hg
theorem pure_is_group (K : PySem.W.Frag) (A : Adr) (ds : List D) (R : D → Prop) (Z : Addr → Prop) (hl : ds.length = 2) (h : sp_is_group A ds R Z) : w_is_group K A (gam0 3 ds) [] (Pt R Z) := by
  obtain ⟨x, y, rfl, okx, oky, hx, hz, hr⟩ := h
  have px := okD_pure okx
  have py := okT_pure oky
  simp only [w_is_group, wSeq, wNext, wRet, wDrop, wAsg, wPar, wIf, wBrk, wCnt, wRaise, wIte, wAndV, wOrV, wNotV, wNeg, wAnd, wOr, wNot, wTest, wCB, wCons, wNil, wVar, wC, wBin, wTup, wLst, wLstM, wFrz, wIsN, wOrL, wDict0, wIt, wRng1, wRng2, wMeth, wMethT, wNoP, wPt, wSl, wRev, wRgs, fTupR, fLstR, fLstRM, rgM, wCall, wYes, bOf, gam0, List.map_cons, List.map_nil, List.length_cons, List.length_nil, List.replicate, List.cons_append, List.nil_append, List.append_nil, List.getElem?_cons_zero, List.getElem?_cons_succ, List.set_cons_zero, List.set_cons_succ, Nat.add_sub_cancel, Nat.sub_self, Nat.sub_zero, Nat.reduceAdd, Nat.reduceSub, Nat.zero_add, if_true, if_false, Bool.false_eq_true, Bool.not_true, Bool.not_false, true_and, and_true, Bool.and_true, Bool.true_and]
  refine ⟨pures_1 py, y, rfl, oky, fun hy => ?_, fun hy => hz hy⟩
  obtain ⟨n, rfl, n2, n5⟩ := isSize_num hy
  have hr := hr n rfl n2 n5
  cases x with
  | tup xs =>
    obtain ⟨hlen, hk⟩ := hx xs rfl
    simp only [dIsi, res, tyN, isi_t0, wLc, wipeG, itemsI, wSeq, wNext, wRet, wDrop, wAsg, wPar, wIf, wBrk, wCnt, wRaise, wIte, wAndV, wOrV, wNotV, wNeg, wAnd, wOr, wNot, wTest, wCB, wCons, wNil, wVar, wC, wBin, wTup, wLst, wLstM, wFrz, wIsN, wOrL, wDict0, wIt, wRng1, wRng2, wMeth, wMethT, wNoP, wPt, wSl, wRev, wRgs, fTupR, fLstR, fLstRM, rgM, wCall, wYes, bOf, gam0, List.map_cons, List.map_nil, List.length_cons, List.length_nil, List.replicate, List.cons_append, List.nil_append, List.append_nil, List.getElem?_cons_zero, List.getElem?_cons_succ, List.set_cons_zero, List.set_cons_succ, Nat.add_sub_cancel, Nat.sub_self, Nat.sub_zero, Nat.reduceAdd, Nat.reduceSub, Nat.zero_add, if_true, if_false, Bool.false_eq_true, Bool.not_true, Bool.not_false, true_and, and_true, Bool.and_true, Bool.true_and]
    refine ⟨by decide, ?_⟩
    refine ⟨by unfold big; omega, wLcL_map (fun d => .bl (decide ((sizeOf d : Int) = n))) _ (fun d hd => ⟨rfl, fun μ' Q q => ?_⟩) ?_⟩
    · refine ⟨⟨rfl, pures_1 (okT_pure (hk d hd))⟩, d, rfl, hk d hd, ?_⟩
      simp only [dEq, res, eqOk_int, deq_int, wSeq, wNext, wRet, wDrop, wAsg, wPar, wIf, wBrk, wCnt, wRaise, wIte, wAndV, wOrV, wNotV, wNeg, wAnd, wOr, wNot, wTest, wCB, wCons, wNil, wVar, wC, wBin, wTup, wLst, wLstM, wFrz, wIsN, wOrL, wDict0, wIt, wRng1, wRng2, wMeth, wMethT, wNoP, wPt, wSl, wRev, wRgs, fTupR, fLstR, fLstRM, rgM, wCall, wYes, bOf, gam0, List.map_cons, List.map_nil, List.length_cons, List.length_nil, List.replicate, List.cons_append, List.nil_append, List.append_nil, List.getElem?_cons_zero, List.getElem?_cons_succ, List.set_cons_zero, List.set_cons_succ, Nat.add_sub_cancel, Nat.sub_self, Nat.sub_zero, Nat.reduceAdd, Nat.reduceSub, Nat.zero_add, if_true, if_false, Bool.false_eq_true, Bool.not_true, Bool.not_false, true_and, and_true, Bool.and_true, Bool.true_and]
      exact q
    · have e : xs.map (fun d => D.bl (decide ((sizeOf d : Int) = n))) = (xs.map fun d => decide (sizeOf d = n)).map D.bl := by
        rw [List.map_map]
        apply List.map_congr_left
        intro d _
        show D.bl (decide ((sizeOf d : Int) = n)) = D.bl (decide (sizeOf d = n))
        by_cases q : sizeOf d = n
        · rw [decide_eq_true q, decide_eq_true (by rw [q])]
        · rw [decide_eq_false q, decide_eq_false (by omega)]
      rw [e]
      refine ⟨⟨_, rfl, ?_⟩, fun ys q => nomatch q⟩
      by_cases hs : ∀ d ∈ xs, sizeOf d = n
      · have : ((xs.map fun d => decide (sizeOf d = n)).all id) = true := by
          rw [List.all_eq_true]
          intro b hb
          obtain ⟨t, ht, rfl⟩ := List.mem_map.mp hb
          exact decide_eq_true (hs t ht)
        rw [this]
        obtain ⟨ts, rfl, tok⟩ := turns_rows (xs := xs) fun d hd => by rw [hs d hd]; omega
        have tt : ∀ t ∈ ts, Tn n t := fun t ht => ⟨tok t ht, by rw [← hs _ (List.mem_map.mpr ⟨t, ht, rfl⟩), sizeOf_ok (tok t ht)]⟩
        rw [List.length_map] at hlen
        refine ⟨pures_2 px rfl, few_it6 (.inr rfl) hlen n2 n5 tt fun g hg => ?_⟩
        refine ⟨⟨eqOk_rowsT g, eqOk_rowsT ts⟩, rfl, ?_⟩
        show R (.bl (deq (.tup (g.map tI)) (.tup (ts.map tI))))
        rw [deq_rowsT]
        refine hr _ ⟨fun h => ?_, fun ⟨ts', e1, _, e3⟩ => ?_⟩
        · have h := of_decide_eq_true h
          subst h
          exact ⟨g, rfl, tt, hg⟩
        · have e1 := rows_inj (D.tup.inj e1)
          subst e1
          exact decide_eq_true (hg.uniq e3)
      · have : ((xs.map fun d => decide (sizeOf d = n)).all id) = false := by
          rw [← Bool.not_eq_true]
          intro q
          refine hs fun t ht => ?_
          exact of_decide_eq_true (List.all_eq_true.mp q (decide (sizeOf t = n)) (List.mem_map.mpr ⟨t, ht, rfl⟩))
        rw [this]
        refine ⟨rfl, hr false ⟨fun h => (by cases h), fun ⟨ts, e1, e2, _⟩ => (hs fun d hd => ?_).elim⟩⟩
        cases e1
        obtain ⟨t, ht, rfl⟩ := List.mem_map.mp hd
        rw [sizeOf_ok (e2 t ht).1, (e2 t ht).2]
  | _ =>
    first | (cases okx; done) | skip
    all_goals simp only [dIsi, res, tyN, isi_t1, isi_t2, isi_t3, isi_t4, isi_t5, isi_t6, wSeq, wNext, wRet, wDrop, wAsg, wPar, wIf, wBrk, wCnt, wRaise, wIte, wAndV, wOrV, wNotV, wNeg, wAnd, wOr, wNot, wTest, wCB, wCons, wNil, wVar, wC, wBin, wTup, wLst, wLstM, wFrz, wIsN, wOrL, wDict0, wIt, wRng1, wRng2, wMeth, wMethT, wNoP, wPt, wSl, wRev, wRgs, fTupR, fLstR, fLstRM, rgM, wCall, wYes, bOf, gam0, List.map_cons, List.map_nil, List.length_cons, List.length_nil, List.replicate, List.cons_append, List.nil_append, List.append_nil, List.getElem?_cons_zero, List.getElem?_cons_succ, List.set_cons_zero, List.set_cons_succ, Nat.add_sub_cancel, Nat.sub_self, Nat.sub_zero, Nat.reduceAdd, Nat.reduceSub, Nat.zero_add, if_true, if_false, Bool.false_eq_true, Bool.not_true, Bool.not_false, true_and, and_true, Bool.and_true, Bool.true_and]
    all_goals refine ⟨by decide, ?_⟩
    all_goals exact ⟨rfl, hr false ⟨fun h => (by cases h), fun ⟨ts, e1, _, _⟩ => nomatch e1⟩⟩
end TC

set_option Elab.async false
set_option linter.all false
set_option maxRecDepth 100000
set_option maxHeartbeats 4000000
namespace TC
open PySem PySem.Spec PyProof.Rows L2
theorem seqK {w1 w2 : DS} {Γ : Gam} {μ : Mem} {P : Post} (h : ∀ k : Gam → Mem → Prop, (∀ Γ' μ', w2 Γ' μ' P → k Γ' μ') → w1 Γ μ ⟨k, P.rt, P.bk, P.ct, P.rz⟩) : wSeq w1 w2 Γ μ P := h _ fun _ _ h => h
end TC

set_option Elab.async false
set_option linter.all false
set_option maxRecDepth 100000
set_option maxHeartbeats 4000000
namespace TC
open PySem PySem.Spec PyProof.Rows L2
/-! the law's closing, of a list of its caller's own or of one at rest -/
def memL (μ e : Mem) (s : Wst) : Mem := μ ++ .dt s.ks (zsD s) :: (e ++ [.lst (s.fd.map tI)])
section
variable {μ e : Mem} {s : Wst}
theorem app_at {α : Type} {a b : List α} {i : Nat} : (a ++ b)[a.length + i]? = b[i]? := by
  rw [List.getElem?_append_right (by omega)]
  congr 1
  omega
theorem app_set {α : Type} {a b : List α} {i : Nat} {c : α} : (a ++ b).set (a.length + i) c = a ++ b.set i c := by
  rw [List.set_append_right _ _ (by omega)]
  congr 2
  omega
theorem memL_d : (memL μ e s)[μ.length]? = some (.dt s.ks (zsD s)) := app_at (i := 0)
theorem memL_f : (memL μ e s)[μ.length + (e.length + 1)]? = some (.lst (s.fd.map tI)) := by
  unfold memL
  rw [app_at]
  exact memC_f (e := e) (s := s)
theorem memL_f2 {c : Cell} : ((memL μ e s).set μ.length c)[μ.length + (e.length + 1)]? = some (.lst (s.fd.map tI)) := by
  have := app_set (a := μ) (b := memC e s) (i := 0) (c := c)
  show ((μ ++ memC e s).set (μ.length + 0) c)[_]? = _
  rw [this, app_at]
  exact memC_f2
theorem memL_add {c : Cell} {x : List D} : ((memL μ e s).set μ.length c).set (μ.length + (e.length + 1)) (.lst x) = μ ++ c :: (e ++ [.lst x]) := by
  have := app_set (a := μ) (b := memC e s) (i := 0) (c := c)
  show ((μ ++ memC e s).set (μ.length + 0) c).set _ _ = _
  rw [this, app_set, memC_add]
theorem memL_end : (memL μ e s).set (μ.length + (e.length + 1)) .dead = μ ++ .dt s.ks (zsD s) :: (e ++ [.dead]) := by
  show (μ ++ memC e s).set _ _ = _
  rw [app_set, memC_end]
end
def bodyC (A : Adr) : DS := (wSeq (wAsg 7 (wCall 2 (sp_law_into A) (wCons (wVar 5) (wCons (wVar 6) wNil))))
  (wSeq (wIf (wTest (wBin (dDIn true) (wVar 7) (wVar 2)))
  (wSeq (wSetK (wVar 2) (wVar 7) (wC (.int 0)))
  (wSeq (wDrop (wMeth dAppend (wVar 4) (wCons (wVar 7) wNil)))
  wNext))
  wNext)
  wNext))
theorem bodyC_it {A : Adr} {n : Nat} {x d3 : D} {μ e : Mem} {s : Wst} {t p : List Int} {d7 : Option D} {P : Post} (ok : WstOk n s) (hf : s.fd.length ≤ s.ks.length) (tt : Tn n t) (tp : Tn n p)
    (nx : ∀ d7, P.nx [some x, some (.int (n : Int)), some (.mt μ.length), some d3, some (.mt (μ.length + (e.length + 1))), some (tI t), some (tI p), d7] (memL μ e (stepW t p .non s))) :
    bodyC A [some x, some (.int (n : Int)), some (.mt μ.length), some d3, some (.mt (μ.length + (e.length + 1))), some (tI t), some (tI p), d7] (memL μ e s) P := by
  have lenk := ok.len
  unfold bodyC
  simp only [wSeq, wNext, wRet, wDrop, wAsg, wPar, wIf, wBrk, wCnt, wRaise, wIte, wAndV, wOrV, wNotV, wNeg, wAnd, wOr, wNot, wTest, wCB, wCons, wNil, wVar, wC, wBin, wTup, wLst, wLstM, wFrz, wIsN, wOrL, wDict0, wIt, wRng1, wRng2, wMeth, wMethT, wNoP, wPt, wSl, wRev, wRgs, fTupR, fLstR, fLstRM, rgM, wCall, wYes, bOf, gam0, List.map_cons, List.map_nil, List.length_cons, List.length_nil, List.replicate, List.cons_append, List.nil_append, List.append_nil, List.getElem?_cons_zero, List.getElem?_cons_succ, List.set_cons_zero, List.set_cons_succ, Nat.add_sub_cancel, Nat.sub_self, Nat.sub_zero, Nat.reduceAdd, Nat.reduceSub, Nat.zero_add, if_true, if_false, Bool.false_eq_true, Bool.not_true, Bool.not_false, true_and, and_true, Bool.and_true, Bool.true_and]
  refine ⟨pures2 t p, t, p, rfl, fun j hj => by rw [tt.2]; exact tp.rng j hj, by rw [tp.2]; have := tt.bd; omega, ?_⟩
  have dO : dtOf (.mt μ.length) (memL μ e s) = some (s.ks, zsD s) := by
    show (match (memL μ e s)[μ.length]? with | some (Cell.dt ks ds) => some (ks, ds) | _ => none) = _
    rw [memL_d]
  simp only [dDIn, dO, keyD_tI, if_true, wSeq, wNext, wRet, wDrop, wAsg, wPar, wIf, wBrk, wCnt, wRaise, wIte, wAndV, wOrV, wNotV, wNeg, wAnd, wOr, wNot, wTest, wCB, wCons, wNil, wVar, wC, wBin, wTup, wLst, wLstM, wFrz, wIsN, wOrL, wDict0, wIt, wRng1, wRng2, wMeth, wMethT, wNoP, wPt, wSl, wRev, wRgs, fTupR, fLstR, fLstRM, rgM, wCall, wYes, bOf, gam0, List.map_cons, List.map_nil, List.length_cons, List.length_nil, List.replicate, List.cons_append, List.nil_append, List.append_nil, List.getElem?_cons_zero, List.getElem?_cons_succ, List.set_cons_zero, List.set_cons_succ, Nat.add_sub_cancel, Nat.sub_self, Nat.sub_zero, Nat.reduceAdd, Nat.reduceSub, Nat.zero_add, if_true, if_false, Bool.false_eq_true, Bool.not_true, Bool.not_false, true_and, and_true, Bool.and_true, Bool.true_and]
  cases hc : s.ks.contains (putL t p) with
  | true =>
    show P.nx _ _
    have es : stepW t p .non s = s := by
      unfold stepW
      rw [if_pos hc]
    have := nx (some (tI (putL t p)))
    rw [es] at this
    exact this
  | false =>
    rw [if_pos (show (!false) = true from rfl)]
    have es : stepW t p .non s = ⟨s.ks ++ [putL t p], s.ws ++ [wordAt s t ++ [.non]], s.fd ++ [putL t p]⟩ := by
      unfold stepW
      rw [if_neg (by rw [hc]; decide)]
    simp only [wSetK, keyD_tI, memL_d, put_new hc, wSeq, wNext, wRet, wDrop, wAsg, wPar, wIf, wBrk, wCnt, wRaise, wIte, wAndV, wOrV, wNotV, wNeg, wAnd, wOr, wNot, wTest, wCB, wCons, wNil, wVar, wC, wBin, wTup, wLst, wLstM, wFrz, wIsN, wOrL, wDict0, wIt, wRng1, wRng2, wMeth, wMethT, wNoP, wPt, wSl, wRev, wRgs, fTupR, fLstR, fLstRM, rgM, wCall, wYes, bOf, gam0, List.map_cons, List.map_nil, List.length_cons, List.length_nil, List.replicate, List.cons_append, List.nil_append, List.append_nil, List.getElem?_cons_zero, List.getElem?_cons_succ, List.set_cons_zero, List.set_cons_succ, Nat.add_sub_cancel, Nat.sub_self, Nat.sub_zero, Nat.reduceAdd, Nat.reduceSub, Nat.zero_add, if_true, if_false, Bool.false_eq_true, Bool.not_true, Bool.not_false, true_and, and_true, Bool.and_true, Bool.true_and]
    refine ⟨by unfold big; omega, ?_⟩
    simp only [isLst, dAppend, memL_f2]
    refine ⟨trivial, by rw [List.length_map]; unfold big; omega, ?_⟩
    rw [memL_add]
    have ef : μ ++ Cell.dt (s.ks ++ [putL t p]) (zsD s ++ [.int 0]) :: (e ++ [Cell.lst (s.fd.map tI ++ [tI (putL t p)])]) = memL μ e (stepW t p .non s) := by
      rw [es]
      unfold memL zsD
      rw [List.map_append, List.map_append]
      rfl
    rw [ef]
    exact nx _
theorem pure_law_closed (K : PySem.W.Frag) (A : Adr) (ds : List D) (μ : Mem) (R : D → Mem → Prop) (Z : Addr → Mem → Prop) (hl : ds.length = 2) (h : s6_law_closed A ds μ R Z) : w_law_closed K A (gam0 8 ds) μ ⟨fun _ μ1 => R .non μ1, R, fun _ _ => False, fun _ _ => False, fun cl _ μ1 => Z cl μ1⟩ := by
  obtain ⟨x, ts, n, rfl, hx, hlen, ⟨n2, n5⟩, tt, r⟩ := h
  have rk : rgOk (n : Int) := by unfold rgOk; omega
  have lp : pures (ts.map fun _ => D.non) = true := pures_of fun d h => by
    obtain ⟨_, _, rfl⟩ := List.mem_map.mp h
    rfl
  have te := Tn.e n2 n5
  unfold w_law_closed
  simp only [wFor, itemsI, wDisp1, wSeq, wNext, wRet, wDrop, wAsg, wPar, wIf, wBrk, wCnt, wRaise, wIte, wAndV, wOrV, wNotV, wNeg, wAnd, wOr, wNot, wTest, wCB, wCons, wNil, wVar, wC, wBin, wTup, wLst, wLstM, wFrz, wIsN, wOrL, wDict0, wIt, wRng1, wRng2, wMeth, wMethT, wNoP, wPt, wSl, wRev, wRgs, fTupR, fLstR, fLstRM, rgM, wCall, wYes, bOf, gam0, List.map_cons, List.map_nil, List.length_cons, List.length_nil, List.replicate, List.cons_append, List.nil_append, List.append_nil, List.getElem?_cons_zero, List.getElem?_cons_succ, List.set_cons_zero, List.set_cons_succ, Nat.add_sub_cancel, Nat.sub_self, Nat.sub_zero, Nat.reduceAdd, Nat.reduceSub, Nat.zero_add, if_true, if_false, Bool.false_eq_true, Bool.not_true, Bool.not_false, true_and, and_true, Bool.and_true, Bool.true_and]
  refine ⟨rk, ?_⟩
  rw [rgD_rgL]
  have ek : keyD (.tup ((rgL n).map D.int)) = some (rgL n) := keyD_ints _
  rw [ek]
  refine ⟨app_at (i := 0), rk, by decide, ?_⟩
  have m0 : (μ ++ [Cell.dt [] []]).set μ.length (Cell.dt [rgL n] [D.int 0]) = μ ++ [.dt [rgL n] [.int 0]] := app_set (i := 0)
  rw [m0]
  refine ⟨fun m Γ μ' => ∃ (s : Wst) (e : Mem) (d4 d5 d6 d7 : Option D), Γ = [some x, some (.int (n : Int)), some (.mt μ.length), some (.lst (s.fd.map tI)), d4, d5, d6, d7] ∧ μ' = μ ++ .dt s.ks (zsD s) :: e ∧ InvW n ts s ∧ m = 2 * (152 - s.ks.length) + (if s.fd = [] then 0 else 1), _, ⟨⟨[rgL n], [[]], [rgL n]⟩, [], _, _, _, _, rfl, rfl, ?_, rfl⟩, ?_⟩
  · refine ⟨⟨rfl, fun w hw => ?_, by simp, fun t ht => ?_⟩, by simp, fun x hx => ?_, fun x hx => hx, Nat.le_refl _, fun x hx => .inl hx⟩
    · rw [List.mem_singleton.mp hw]
      exact ⟨Nat.zero_le _, rfl⟩
    · rw [List.mem_singleton.mp ht]
      exact te
    · rw [List.mem_singleton.mp hx]
      exact .e
  · rintro m Γ μ' ⟨s, e, d4, d5, d6, d7, rfl, rfl, inv, rfl⟩
    have e0 := deq_rowsL s.fd []
    simp only [List.map_nil] at e0
    simp only [dNe, res, e0, wSeq, wNext, wRet, wDrop, wAsg, wPar, wIf, wBrk, wCnt, wRaise, wIte, wAndV, wOrV, wNotV, wNeg, wAnd, wOr, wNot, wTest, wCB, wCons, wNil, wVar, wC, wBin, wTup, wLst, wLstM, wFrz, wIsN, wOrL, wDict0, wIt, wRng1, wRng2, wMeth, wMethT, wNoP, wPt, wSl, wRev, wRgs, fTupR, fLstR, fLstRM, rgM, wCall, wYes, bOf, gam0, List.map_cons, List.map_nil, List.length_cons, List.length_nil, List.replicate, List.cons_append, List.nil_append, List.append_nil, List.getElem?_cons_zero, List.getElem?_cons_succ, List.set_cons_zero, List.set_cons_succ, Nat.add_sub_cancel, Nat.sub_self, Nat.sub_zero, Nat.reduceAdd, Nat.reduceSub, Nat.zero_add, if_true, if_false, Bool.false_eq_true, Bool.not_true, Bool.not_false, true_and, and_true, Bool.and_true, Bool.true_and]
    refine ⟨Nat.zero_le _, ⟨eqOk_rowsL _, eqOk_lI []⟩, ?_⟩
    by_cases hf : s.fd = []
    · rw [decide_eq_true hf, if_neg (by decide)]
      have dO : dtOf (.mt μ.length) (μ ++ .dt s.ks (zsD s) :: e) = some (s.ks, zsD s) := by
        show (match (μ ++ Cell.dt s.ks (zsD s) :: e)[μ.length]? with | some (Cell.dt ks ds) => some (ks, ds) | _ => none) = _
        rw [show (μ ++ Cell.dt s.ks (zsD s) :: e)[μ.length]? = some (.dt s.ks (zsD s)) from app_at (i := 0)]
      simp only [dSortDI, dO, dTupOf, items, wSeq, wNext, wRet, wDrop, wAsg, wPar, wIf, wBrk, wCnt, wRaise, wIte, wAndV, wOrV, wNotV, wNeg, wAnd, wOr, wNot, wTest, wCB, wCons, wNil, wVar, wC, wBin, wTup, wLst, wLstM, wFrz, wIsN, wOrL, wDict0, wIt, wRng1, wRng2, wMeth, wMethT, wNoP, wPt, wSl, wRev, wRgs, fTupR, fLstR, fLstRM, rgM, wCall, wYes, bOf, gam0, List.map_cons, List.map_nil, List.length_cons, List.length_nil, List.replicate, List.cons_append, List.nil_append, List.append_nil, List.getElem?_cons_zero, List.getElem?_cons_succ, List.set_cons_zero, List.set_cons_succ, Nat.add_sub_cancel, Nat.sub_self, Nat.sub_zero, Nat.reduceAdd, Nat.reduceSub, Nat.zero_add, if_true, if_false, Bool.false_eq_true, Bool.not_true, Bool.not_false, true_and, and_true, Bool.and_true, Bool.true_and]
      have cl : ∀ t, t ∈ s.ks ↔ Cl n ts t := fun t => ⟨inv.cl t, fun c => Cl.all (P := fun x => x ∈ s.ks) inv.e (fun t g ht hg => by
        rcases inv.done t ht with hd | hd
        · rw [hf] at hd
          cases hd
        · exact hd g hg) c⟩
      refine ⟨fun k hk q => ?_, fun ks' p1 p2 => ?_⟩
      · have tk := inv.ok.2.2.2 k hk
        rw [q] at tk
        have := tk.2
        simp at this
        omega
      · exact r ks' _ ⟨ltL_sorted (p1.nodup_iff.mpr inv.ok.2.2.1) p2, fun k => p1.mem_iff.trans (cl k)⟩
    · rw [decide_eq_false hf, if_pos (by decide)]
      refine ⟨Nat.zero_le _, ?_⟩
      have ml : (μ ++ Cell.dt s.ks (zsD s) :: e).length = μ.length + (e.length + 1) := by simp
      have mA : μ ++ Cell.dt s.ks (zsD s) :: e ++ [Cell.lst []] = memL μ e ⟨s.ks, s.ws, []⟩ := by
        unfold memL zsD
        simp
      rw [ml, mA]
      obtain ⟨inv', ext, x1, x2⟩ := inv.next tt (lk := ts) (ld := ts.map fun _ => D.non) (by rw [List.length_map]) lp (fun x => .rfl)
      have ls : ∀ p ∈ ts.zip (ts.map fun _ => D.non), Tn n p.1 ∧ p.2.pure = true := fun p hp' => ⟨tt _ (List.of_mem_zip hp').1, pures_mem lp _ (List.of_mem_zip hp').2⟩
      have lk := inv.ok.len
      have lk' := inv'.ok.len
      have ok0 : WstOk n ⟨s.ks, s.ws, []⟩ := inv.ok
      refine wForL_go (fun r' Γ μ' => ∃ (s' : Wst) (rest : List (List Int)) (d5 d6 d7 : Option D), r' = rest.map tI ∧ Γ = [some x, some (.int (n : Int)), some (.mt μ.length), some (.lst (s.fd.map tI)), some (.mt (μ.length + (e.length + 1))), d5, d6, d7] ∧ μ' = memL μ e s' ∧ WstOk n s' ∧ (∀ t ∈ rest, t ∈ s'.ks) ∧ rowF (ts.zip (ts.map fun _ => D.non)) rest s' = rowF (ts.zip (ts.map fun _ => D.non)) s.fd ⟨s.ks, s.ws, []⟩ ∧ s'.fd.length ≤ s'.ks.length) ?_ ?_ _ _ _ ⟨⟨s.ks, s.ws, []⟩, s.fd, _, _, _, rfl, rfl, rfl, ok0, inv.sub, rfl, Nat.zero_le _⟩
      · rintro Γ μ' ⟨s', rest, d5, d6, d7, hrest, rfl, rfl, ok, _, e', _⟩
        cases rest with
        | cons t rest => cases hrest
        | nil =>
          have e' : s' = rowF (ts.zip (ts.map fun _ => D.non)) s.fd ⟨s.ks, s.ws, []⟩ := e'
          simp only [fFrz, memL_f, memL_end, wSeq, wNext, wRet, wDrop, wAsg, wPar, wIf, wBrk, wCnt, wRaise, wIte, wAndV, wOrV, wNotV, wNeg, wAnd, wOr, wNot, wTest, wCB, wCons, wNil, wVar, wC, wBin, wTup, wLst, wLstM, wFrz, wIsN, wOrL, wDict0, wIt, wRng1, wRng2, wMeth, wMethT, wNoP, wPt, wSl, wRev, wRgs, fTupR, fLstR, fLstRM, rgM, wCall, wYes, bOf, gam0, List.map_cons, List.map_nil, List.length_cons, List.length_nil, List.replicate, List.cons_append, List.nil_append, List.append_nil, List.getElem?_cons_zero, List.getElem?_cons_succ, List.set_cons_zero, List.set_cons_succ, Nat.add_sub_cancel, Nat.sub_self, Nat.sub_zero, Nat.reduceAdd, Nat.reduceSub, Nat.zero_add, if_true, if_false, Bool.false_eq_true, Bool.not_true, Bool.not_false, true_and, and_true, Bool.and_true, Bool.true_and]
          refine ⟨2 * (152 - s'.ks.length) + (if s'.fd = [] then 0 else 1), ?_, s', e ++ [.dead], _, _, _, _, rfl, rfl, by rw [e']; exact inv', rfl⟩
          rw [if_neg hf, e']
          rw [x1, List.length_append] at lk' ⊢
          rw [x2]
          cases ext with
          | nil => simp
          | cons a b =>
            rw [if_neg (by simp)]
            simp only [List.length_cons] at lk' ⊢
            omega
      · rintro y r' Γ μ' ⟨s1, rest, d5, d6, d7, hrest, rfl, rfl, ok, hm, e', hfd⟩ nx hnx
        cases rest with
        | nil => cases hrest
        | cons t rest =>
          obtain ⟨hy, hr2⟩ := List.cons.inj (hrest : y :: r' = tI t :: rest.map tI)
          clear hrest
          subst hy hr2
          have tm := hm t (List.mem_cons_self ..)
          have ttt : Tn n t := ok.2.2.2 t tm
          obtain ⟨i1, i2, i3⟩ := inF_all (ts.zip (ts.map fun _ => D.non)) s1 ok ttt ls
          have ez := zip_map_fst ts
          let I : List D → Gam → Mem → Prop := fun r' Γ μ' => ∃ (s' : Wst) (rest : List (List Int × D)) (d6 d7 : Option D), r' = rest.map (fun p => tI p.1) ∧ Γ = [some x, some (.int (n : Int)), some (.mt μ.length), some (.lst (s.fd.map tI)), some (.mt (μ.length + (e.length + 1))), some (tI t), d6, d7] ∧ μ' = memL μ e s' ∧ WstOk n s' ∧ t ∈ s'.ks ∧ (∀ p ∈ rest, Tn n p.1 ∧ p.2 = D.non) ∧ inF t rest s' = inF t (ts.zip (ts.map fun _ => D.non)) s1 ∧ s'.fd.length ≤ s'.ks.length
          have I0 : ∀ d6 d7, I (ts.map tI) [some x, some (.int (n : Int)), some (.mt μ.length), some (.lst (s.fd.map tI)), some (.mt (μ.length + (e.length + 1))), some (tI t), d6, d7] (memL μ e s1) := fun d6 d7 => ⟨s1, _, _, _, ez.symm, rfl, rfl, ok, tm, fun p hp => ⟨(ls p hp).1, by
            obtain ⟨_, h2⟩ := List.of_mem_zip hp
            obtain ⟨_, _, q⟩ := List.mem_map.mp h2
            exact q.symm⟩, rfl, hfd⟩
          have If : ∀ Γ μ', I [] Γ μ' → nx Γ μ' := by
            rintro Γ μ' ⟨s', rest', d6, d7, hrest, rfl, rfl, ok', _, _, e'', hfd'⟩
            cases rest' with
            | cons p rest' => cases hrest
            | nil =>
              have e'' : s' = inF t (ts.zip (ts.map fun _ => D.non)) s1 := e''
              exact hnx _ _ ⟨s', rest, _, _, _, rfl, rfl, rfl, ok', fun t' h' => by rw [e'']; exact i2.mem (hm t' (List.mem_cons_of_mem _ h')), by rw [e'']; exact e', hfd'⟩
          have Is : ∀ y r Γ μ', I (y :: r) Γ μ' → ∀ (rt : D → Mem → Prop) (bk : Gam → Mem → Prop) (rz) (nx' : Gam → Mem → Prop), (∀ Γ' μ', I r Γ' μ' → nx' Γ' μ') → bodyC A (Γ.set 6 (some y)) μ' ⟨nx', rt, bk, nx', rz⟩ := by
            rintro y r Γ μ' ⟨s', rest', d6, d7, hrest, rfl, rfl, ok', tm', hp', e'', hfd'⟩ rt bk rz nx' hnx'
            cases rest' with
            | nil => cases hrest
            | cons p rest' =>
              obtain ⟨hy, hr2⟩ := List.cons.inj (hrest : y :: r = tI p.1 :: rest'.map (fun p => tI p.1))
              clear hrest
              subst hy hr2
              obtain ⟨p1, p2⟩ := p
              obtain ⟨pp, pn⟩ := hp' _ (List.mem_cons_self ..)
              simp only at pp pn
              subst pn
              refine bodyC_it ok' hfd' ttt pp fun d7 => hnx' _ _ ⟨_, rest', _, _, rfl, rfl, rfl, stepW_ok (l := .non) ok' ttt pp rfl, (stepW_ext (s := s') (t := t) (g := p1) (l := .non)).1.mem tm', fun q hq => hp' q (List.mem_cons_of_mem _ hq), e'', stepW_fd hfd'⟩
          show wOrS (wForM 6 (wVar 0) (bodyC A)) (wFor (tfN 6) (wIt (wVar 0)) (bodyC A)) _ _ _
          rcases hx with ⟨k, rfl, hk⟩ | rfl
          · have kl : k < μ.length := (List.getElem?_eq_some_iff.mp hk).1
            have mk : ∀ s', (memL μ e s')[k]? = some (.lst (ts.map tI)) := fun s' => by
              unfold memL
              rw [List.getElem?_append_left kl]
              exact hk
            refine .inl ?_
            unfold wForM wVar
            refine ⟨ts.map tI, mk s1, ?_⟩
            refine wForML_go I ?_ If (fun y r Γ μ' h nx' hnx' => Is y r Γ μ' h _ _ _ nx' hnx') _ _ _ (I0 _ _)
            rintro r Γ μ' ⟨s', rest', d6, d7, _, _, rfl, _⟩
            exact mk s'
          · refine .inr ?_
            show wForL (tfN 6) (bodyC A) (ts.map tI) _ _ _
            exact wForL_go I If (fun y r Γ μ' h nx' hnx' => Is y r Γ μ' h _ _ _ nx' hnx') _ _ _ (I0 _ _)
end TC

set_option Elab.async false
set_option linter.all false
set_option maxRecDepth 100000
set_option maxHeartbeats 4000000
namespace TC
open PySem PySem.Spec PyProof.Rows L2
theorem pure_need_group (K : PySem.W.Frag) (A : Adr) (ds : List D) (R : D → Prop) (Z : Addr → Prop) (hl : ds.length = 2) (h : s5_need_group A ds R Z) : w_need_group K A (gam0 3 ds) [] (Pt R Z) := by
  obtain ⟨x, n, rfl, ⟨n2, n5⟩, okx, hx, no, yes⟩ := h
  have px := okD_pure okx
  have hi : itemsI (D.tup [D.int (n : Int)]) = some [D.int (n : Int)] := rfl
  simp only [w_need_group, wFor, wForL, tfN, hi, wSeq, wNext, wRet, wDrop, wAsg, wPar, wIf, wBrk, wCnt, wRaise, wIte, wAndV, wOrV, wNotV, wNeg, wAnd, wOr, wNot, wTest, wCB, wCons, wNil, wVar, wC, wBin, wTup, wLst, wLstM, wFrz, wIsN, wOrL, wDict0, wIt, wRng1, wRng2, wMeth, wMethT, wNoP, wPt, wSl, wRev, wRgs, fTupR, fLstR, fLstRM, rgM, wCall, wYes, bOf, gam0, List.map_cons, List.map_nil, List.length_cons, List.length_nil, List.replicate, List.cons_append, List.nil_append, List.append_nil, List.getElem?_cons_zero, List.getElem?_cons_succ, List.set_cons_zero, List.set_cons_succ, Nat.add_sub_cancel, Nat.sub_self, Nat.sub_zero, Nat.reduceAdd, Nat.reduceSub, Nat.zero_add, if_true, if_false, Bool.false_eq_true, Bool.not_true, Bool.not_false, true_and, and_true, Bool.and_true, Bool.true_and]
  refine ⟨pures_2 px rfl, x, .int n, rfl, okx, rfl, hx, fun h => (isSize_no h ⟨by omega, by omega⟩).elim, fun m en m2 m5 b hb => ?_⟩
  have e' : n = m := by
    have := D.int.inj en
    omega
  subst e'
  cases b with
  | true =>
    obtain ⟨ts, ex, tt, G⟩ := hb.mp rfl
    show if (true : Bool) = true then _ else _
    rw [if_pos rfl]
    exact ⟨rfl, yes ts ex tt G⟩
  | false =>
    show if (false : Bool) = true then _ else _
    rw [if_neg (by decide)]
    exact no fun q => by
      have := hb.mpr q
      cases this
theorem lot_strict {n : Nat} {a : List Int} {g : List (List Int)} {c : List (List Int)} (ta : Tn n a) (tt : ∀ t ∈ g, Tn n t) (G : GrpOk n g g) (hp : c.Perm (g.map (putL a))) (hs : c.Pairwise fun x y => HT.lexLt y x = false) : LotOk g a c := by
  refine ⟨hp, ?_⟩
  have ng := ltL_nodup G.1
  have nd : (g.map (putL a)).Nodup := List.pairwise_map.mpr (List.Pairwise.imp_of_mem (fun {x y} hx hy q e => q (put_cancel6 ta (tt x hx) (tt y hy) e)) ng)
  exact ltL_sorted (hp.nodup_iff.mpr nd) hs
theorem put_rngs {n : Nat} {a b : List Int} (ta : Tn n a) (tb : Tn n b) : (∀ k ∈ b, 0 ≤ k ∧ k < a.length) ∧ b.length ≤ 1000 := by
  refine ⟨fun k hk => ?_, ?_⟩
  · have := tb.rng k hk
    rw [ta.2]
    exact this
  · have := tb.bd
    have := tb.2
    omega
theorem pure_lot_of (K : PySem.W.Frag) (A : Adr) (ds : List D) (R : D → Prop) (Z : Addr → Prop) (hl : ds.length = 2) (h : sp_lot_of A ds R Z) : w_lot_of K A (gam0 3 ds) [] (Pt R Z) := by
  obtain ⟨a, g, n, rfl, ta, ⟨n2, n5⟩, tt, G, r⟩ := h
  have gl : g.length ≤ 152 := tn_len (ltL_nodup G.1) tt
  have hi : itemsI (D.tup (g.map tI)) = some (g.map tI) := rfl
  simp only [w_lot_of, wLc, hi, wSeq, wNext, wRet, wDrop, wAsg, wPar, wIf, wBrk, wCnt, wRaise, wIte, wAndV, wOrV, wNotV, wNeg, wAnd, wOr, wNot, wTest, wCB, wCons, wNil, wVar, wC, wBin, wTup, wLst, wLstM, wFrz, wIsN, wOrL, wDict0, wIt, wRng1, wRng2, wMeth, wMethT, wNoP, wPt, wSl, wRev, wRgs, fTupR, fLstR, fLstRM, rgM, wCall, wYes, bOf, gam0, List.map_cons, List.map_nil, List.length_cons, List.length_nil, List.replicate, List.cons_append, List.nil_append, List.append_nil, List.getElem?_cons_zero, List.getElem?_cons_succ, List.set_cons_zero, List.set_cons_succ, Nat.add_sub_cancel, Nat.sub_self, Nat.sub_zero, Nat.reduceAdd, Nat.reduceSub, Nat.zero_add, if_true, if_false, Bool.false_eq_true, Bool.not_true, Bool.not_false, true_and, and_true, Bool.and_true, Bool.true_and]
  refine ⟨by rw [List.length_map]; unfold big; omega, wLcL_map (fun d => match keyD d with | some t => tI (putL a t) | none => d) _ (fun d hd => ?_) ?_⟩
  · obtain ⟨t, ht, rfl⟩ := List.mem_map.mp hd
    simp only [keyD_tI]
    refine ⟨pure_tI _, fun μ' Q q => ?_⟩
    obtain ⟨b1, b2⟩ := put_rngs ta (tt t ht)
    exact ⟨⟨rfl, pures_2 (pure_tI _) (pure_tI _)⟩, a, t, rfl, b1, b2, q⟩
  · have er : (g.map tI).map (fun d => match keyD d with | some t => tI (putL a t) | none => d) = keysD (g.map (putL a)) := by
      unfold keysD
      rw [List.map_map, List.map_map]
      apply List.map_congr_left
      intro t _
      show (match keyD (tI t) with | some t => tI (putL a t) | none => tI t) = _
      rw [keyD_tI]
      rfl
    rw [er]
    refine ⟨_, rfl, fun k hk => ?_, fun ks hp hs => ?_⟩
    · obtain ⟨t, ht, rfl⟩ := List.mem_map.mp hk
      intro e
      have := (ta.put (tt t ht)).2
      rw [e] at this
      simp at this
      omega
    · exact ⟨pures_rows ks, r ks (lot_strict ta tt G hp hs)⟩
theorem grp_tup {x : D} {n : Nat} (h : IsGrp n x) : ∃ g : List (List Int), x = .tup (g.map tI) ∧ (∀ t ∈ g, Tn n t) ∧ GrpOk n g g := h
theorem pure_lot (K : PySem.W.Frag) (A : Adr) (ds : List D) (R : D → Prop) (Z : Addr → Prop) (hl : ds.length = 2) (h : sp_lot A ds R Z) : w_lot K A (gam0 3 ds) [] (Pt R Z) := by
  obtain ⟨x, y, rfl, ox, zt, yes⟩ := h
  unfold w_lot
  refine seqK fun k hk => ?_
  simp only [wSeq, wNext, wRet, wDrop, wAsg, wPar, wIf, wBrk, wCnt, wRaise, wIte, wAndV, wOrV, wNotV, wNeg, wAnd, wOr, wNot, wTest, wCB, wCons, wNil, wVar, wC, wBin, wTup, wLst, wLstM, wFrz, wIsN, wOrL, wDict0, wIt, wRng1, wRng2, wMeth, wMethT, wNoP, wPt, wSl, wRev, wRgs, fTupR, fLstR, fLstRM, rgM, wCall, wYes, bOf, gam0, List.map_cons, List.map_nil, List.length_cons, List.length_nil, List.replicate, List.cons_append, List.nil_append, List.append_nil, List.getElem?_cons_zero, List.getElem?_cons_succ, List.set_cons_zero, List.set_cons_succ, Nat.add_sub_cancel, Nat.sub_self, Nat.sub_zero, Nat.reduceAdd, Nat.reduceSub, Nat.zero_add, if_true, if_false, Bool.false_eq_true, Bool.not_true, Bool.not_false, true_and, and_true, Bool.and_true, Bool.true_and]
  refine ⟨pures_1 (okT_pure ox), x, rfl, ox, fun h => hk _ _ ?_, zt⟩
  clear hk k
  obtain ⟨a, rfl, ha, es⟩ := sizeOf_turn h
  rw [es]
  have ta : Tn a.length a := ⟨ha, rfl⟩
  obtain ⟨n2, n5⟩ := ta.bd
  obtain ⟨oy, hy, no, ok⟩ := yes a a.length rfl ta n2 n5
  have py := okD_pure oy
  refine seqK fun k hk => ?_
  simp only [wSeq, wNext, wRet, wDrop, wAsg, wPar, wIf, wBrk, wCnt, wRaise, wIte, wAndV, wOrV, wNotV, wNeg, wAnd, wOr, wNot, wTest, wCB, wCons, wNil, wVar, wC, wBin, wTup, wLst, wLstM, wFrz, wIsN, wOrL, wDict0, wIt, wRng1, wRng2, wMeth, wMethT, wNoP, wPt, wSl, wRev, wRgs, fTupR, fLstR, fLstRM, rgM, wCall, wYes, bOf, gam0, List.map_cons, List.map_nil, List.length_cons, List.length_nil, List.replicate, List.cons_append, List.nil_append, List.append_nil, List.getElem?_cons_zero, List.getElem?_cons_succ, List.set_cons_zero, List.set_cons_succ, Nat.add_sub_cancel, Nat.sub_self, Nat.sub_zero, Nat.reduceAdd, Nat.reduceSub, Nat.zero_add, if_true, if_false, Bool.false_eq_true, Bool.not_true, Bool.not_false, true_and, and_true, Bool.and_true, Bool.true_and]
  refine ⟨by decide, pures_2 py rfl, y, a.length, rfl, ⟨n2, n5⟩, oy, hy, no, fun g ey tt G => hk _ _ ?_⟩
  clear hk k
  subst ey
  simp only [wSeq, wNext, wRet, wDrop, wAsg, wPar, wIf, wBrk, wCnt, wRaise, wIte, wAndV, wOrV, wNotV, wNeg, wAnd, wOr, wNot, wTest, wCB, wCons, wNil, wVar, wC, wBin, wTup, wLst, wLstM, wFrz, wIsN, wOrL, wDict0, wIt, wRng1, wRng2, wMeth, wMethT, wNoP, wPt, wSl, wRev, wRgs, fTupR, fLstR, fLstRM, rgM, wCall, wYes, bOf, gam0, List.map_cons, List.map_nil, List.length_cons, List.length_nil, List.replicate, List.cons_append, List.nil_append, List.append_nil, List.getElem?_cons_zero, List.getElem?_cons_succ, List.set_cons_zero, List.set_cons_succ, Nat.add_sub_cancel, Nat.sub_self, Nat.sub_zero, Nat.reduceAdd, Nat.reduceSub, Nat.zero_add, if_true, if_false, Bool.false_eq_true, Bool.not_true, Bool.not_false, true_and, and_true, Bool.and_true, Bool.true_and]
  refine ⟨pures_2 (pure_tI _) py, a, g, a.length, rfl, ta, ⟨n2, n5⟩, tt, G, fun c hc => ⟨?_, ok g rfl tt G c hc⟩⟩
  exact pures_rows c
end TC

set_option Elab.async false
set_option linter.all false
set_option maxRecDepth 100000
set_option maxHeartbeats 4000000
/-! The mathematics of lots. -/
namespace TC
open PySem PySem.Spec PyProof.Rows L2
/-! ### all turns, rising -/
def plL (m : Nat) : List (List Int) := (permN m).map fun l => l.map fun (k : Nat) => (k : Int)
theorem pl_D (m : Nat) : (permN m).map pmD = (plL m).map tI := by
  unfold plL
  rw [List.map_map]
  apply List.map_congr_left
  intro l _
  show D.tup (l.map fun (k : Nat) => D.int (k : Int)) = D.tup ((l.map fun (k : Nat) => (k : Int)).map D.int)
  rw [List.map_map]
  rfl
def adjB : List (List Int) → Bool
  | x :: y :: r => HT.lexLt x y && adjB (y :: r)
  | _ => true
def plChk (m : Nat) : Bool := adjB (plL m) && (plL m).all (fun a => tOk a && a.length == m) && allT.all (fun a => a.length != m || (plL m).contains a)
theorem plChk_all : [2, 3, 4, 5].all plChk = true := by decide +kernel
theorem adjB_p : ∀ {l : List (List Int)}, adjB l = true → l.Pairwise ltL
  | [], _ => .nil
  | [x], _ => List.pairwise_singleton _ _
  | x :: y :: r, h => by
    unfold adjB at h
    rw [Bool.and_eq_true] at h
    have p := adjB_p h.2
    refine .cons (fun z hz => ?_) p
    rcases List.mem_cons.mp hz with rfl | hz
    · exact h.1
    · exact ltL_trans h.1 (List.rel_of_pairwise_cons p hz)
section
variable {n : Nat} {g c r : List (List Int)} {a x y t : List Int}
theorem pl_facts (n2 : 2 ≤ n) (n5 : n ≤ 5) : (plL n).Pairwise ltL ∧ ∀ t, t ∈ plL n ↔ Tn n t := by
  have h := List.all_eq_true.mp plChk_all n (by
    have : n = 2 ∨ n = 3 ∨ n = 4 ∨ n = 5 := by omega
    rcases this with e | e | e | e <;> subst e <;> decide)
  unfold plChk at h
  rw [Bool.and_eq_true, Bool.and_eq_true] at h
  obtain ⟨⟨h1, h2⟩, h3⟩ := h
  refine ⟨adjB_p h1, fun t => ⟨fun ht => ?_, fun ht => ?_⟩⟩
  · have q := List.all_eq_true.mp h2 t ht
    rw [Bool.and_eq_true, beq_iff_eq] at q
    exact q
  · have q := List.all_eq_true.mp h3 t (mem_allT ht.1)
    rw [ht.2] at q
    simpa using q
theorem pl_len (n2 : 2 ≤ n) (n5 : n ≤ 5) : (plL n).length ≤ 120 := by
  have : n = 2 ∨ n = 3 ∨ n = 4 ∨ n = 5 := by omega
  rcases this with e | e | e | e <;> subst e <;> decide +kernel
theorem pl_fact (n2 : 2 ≤ n) (n5 : n ≤ 5) : ((plL n).length : Int) = [1, 1, 2, 6, 24, 120].getD n 0 := by
  have : n = 2 ∨ n = 3 ∨ n = 4 ∨ n = 5 := by omega
  rcases this with e | e | e | e <;> subst e <;> decide +kernel
/-! ### one lot -/
def rel (g : List (List Int)) (a x : List Int) : Prop := ∃ b ∈ g, x = putL a b
structure Gs (n : Nat) (g : List (List Int)) : Prop where
  two : 2 ≤ n
  five : n ≤ 5
  tt : ∀ t ∈ g, Tn n t
  ok : GrpOk n g g
theorem LotOk.mem (h : LotOk g a c) : x ∈ c ↔ rel g a x := by
  rw [h.1.mem_iff, List.mem_map]
  exact ⟨fun ⟨b, hb, e⟩ => ⟨b, hb, e.symm⟩, fun ⟨b, hb, e⟩ => ⟨b, hb, e.symm⟩⟩
theorem LotOk.len (h : LotOk g a c) : c.length = g.length := by rw [h.1.length_eq, List.length_map]
theorem LotOk.tn (G : Gs n g) (ta : Tn n a) (h : LotOk g a c) (hx : x ∈ c) : Tn n x := by
  obtain ⟨b, hb, rfl⟩ := h.mem.mp hx
  exact ta.put (G.tt b hb)
theorem Gs.e (G : Gs n g) : rgL n ∈ g := (G.ok.2 _).mpr .e
theorem rel_refl (G : Gs n g) (ta : Tn n a) : rel g a a := ⟨rgL n, G.e, ta.pe.symm⟩
theorem rel_trans (G : Gs n g) (ta : Tn n a) (h1 : rel g a x) (h2 : rel g x y) : rel g a y := by
  obtain ⟨b, hb, rfl⟩ := h1
  obtain ⟨d, hd, rfl⟩ := h2
  exact ⟨putL b d, G.ok.mul G.two G.five G.tt hb hd, (G.tt b hb).asc (G.tt d hd)⟩
theorem rel_symm (G : Gs n g) (ta : Tn n a) (h1 : rel g a x) : rel g x a := by
  obtain ⟨b, hb, rfl⟩ := h1
  have tb := G.tt b hb
  refine ⟨backL b, G.ok.bk G.two G.five G.tt hb, ?_⟩
  rw [tb.asc tb.bk, put_back tb.1, tb.2, ta.pe]
theorem rel_into (G : Gs n g) (ta : Tn n a) (tx : Tn n x) : rel g a x ↔ putL (backL a) x ∈ g := by
  constructor
  · rintro ⟨b, hb, rfl⟩
    have tb := G.tt b hb
    rw [← ta.asc tb, back_put ta.1, ta.2, tb.ep]
    exact hb
  · intro h
    refine ⟨_, h, ?_⟩
    rw [← ta.bk.asc tx, put_back ta.1, ta.2, tx.ep]
theorem lot_same (G : Gs n g) (ta : Tn n a) (hc : LotOk g a c) (hr : LotOk g x r) (hx : rel g a x) : c = r := by
  have tx : Tn n x := by
    obtain ⟨b, hb, rfl⟩ := hx
    exact ta.put (G.tt b hb)
  refine ltL_uniq hc.2 hr.2 fun t => ?_
  rw [hc.mem, hr.mem]
  exact ⟨fun q => rel_trans G tx (rel_symm G ta hx) q, fun q => rel_trans G ta hx q⟩
theorem ltL_tot (x y : List Int) : x = y ∨ ltL x y ∨ ltL y x := by
  by_cases h1 : HT.lexLt x y = true
  · exact .inr (.inl h1)
  · by_cases h2 : HT.lexLt y x = true
    · exact .inr (.inr h2)
    · exact .inl (lex_total x y (by simpa using h1) (by simpa using h2))
/-- the least of a lot -/
theorem lot_head (h : LotOk g a c) (ha : a ∈ c) (hm : ∀ x ∈ c, ¬ ltL x a) : headL c = a := by
  cases c with
  | nil => cases ha
  | cons y r =>
    show y = a
    rcases List.mem_cons.mp ha with e | ha
    · exact e.symm
    · exact absurd (List.rel_of_pairwise_cons h.2 ha) (hm y (List.mem_cons_self ..))
/-- while the lots are made: behind some turns -/
structure LotsAt (n : Nat) (g done : List (List Int)) (rows : List (List (List Int))) : Prop where
  lot : ∀ r ∈ rows, ∃ a, Tn n a ∧ LotOk g a r
  srt : rows.Pairwise fun r q => ltL (headL r) (headL q)
  had : ∀ t ∈ done, ∃ r ∈ rows, t ∈ r
  hd : ∀ r ∈ rows, headL r ∈ done
  len : rows.length ≤ done.length
variable {done rest : List (List Int)} {rows : List (List (List Int))}
theorem LotsAt.nil : LotsAt n g [] [] := ⟨(fun r h => nomatch h), .nil, (fun t h => nomatch h), (fun r h => nomatch h), Nat.le_refl _⟩
theorem LotsAt.old (h : LotsAt n g done rows) (ht : ∃ r ∈ rows, t ∈ r) : LotsAt n g (done ++ [t]) rows := by
  refine ⟨h.lot, h.srt, fun u hu => ?_, fun r hr => List.mem_append_left _ (h.hd r hr), by rw [List.length_append]; exact Nat.le_trans h.len (Nat.le_add_right _ _)⟩
  rcases List.mem_append.mp hu with hu | hu
  · exact h.had u hu
  · rw [List.mem_singleton.mp hu]
    exact ht
theorem LotsAt.new (G : Gs n g) (h : LotsAt n g done rows) (e : plL n = done ++ t :: rest) (ht : ¬ ∃ r ∈ rows, t ∈ r) (hc : LotOk g t c) : LotsAt n g (done ++ [t]) (rows ++ [c]) ∧ ∀ x ∈ c, ¬ ∃ r ∈ rows, x ∈ r := by
  obtain ⟨p1, p2⟩ := pl_facts G.two G.five
  have tt : Tn n t := (p2 t).mp (by rw [e]; simp)
  have tc : t ∈ c := hc.mem.mpr (rel_refl G tt)
  rw [e] at p1
  have p3 := (List.pairwise_append.mp p1).2.2
  have fresh : ∀ x ∈ c, ¬ ∃ r ∈ rows, x ∈ r := by
    rintro x hx ⟨r, hr, hxr⟩
    obtain ⟨a, ta, ha⟩ := h.lot r hr
    have q1 := hc.mem.mp hx
    have q2 := ha.mem.mp hxr
    have tx : Tn n x := hc.tn G tt hx
    exact ht ⟨r, hr, ha.mem.mpr (rel_trans G ta q2 (rel_symm G tt q1))⟩
  have hh : headL c = t := lot_head hc tc fun x hx hlt => by
    have tx : Tn n x := hc.tn G tt hx
    have xm := (p2 x).mpr tx
    rw [e] at xm
    rcases List.mem_append.mp xm with xm | xm
    · exact fresh x hx (h.had x xm)
    · rcases List.mem_cons.mp xm with rfl | xm
      · exact ltL_irr _ hlt
      · have := List.rel_of_pairwise_cons (List.pairwise_append.mp p1).2.1 xm
        exact ltL_irr _ (ltL_trans hlt this)
  refine ⟨⟨fun r hr => ?_, List.pairwise_append.mpr ⟨h.srt, List.pairwise_singleton _ _, fun r hr q hq => ?_⟩, fun u hu => ?_, fun r hr => ?_, ?_⟩, fresh⟩
  · rcases List.mem_append.mp hr with hr | hr
    · exact h.lot r hr
    · rw [List.mem_singleton.mp hr]
      exact ⟨t, tt, hc⟩
  · rw [List.mem_singleton.mp hq, hh]
    exact p3 _ (h.hd r hr) t (List.mem_cons_self ..)
  · rcases List.mem_append.mp hu with hu | hu
    · obtain ⟨r, hr, h2⟩ := h.had u hu
      exact ⟨r, List.mem_append_left _ hr, h2⟩
    · rw [List.mem_singleton.mp hu]
      exact ⟨c, by simp, tc⟩
  · rcases List.mem_append.mp hr with hr | hr
    · exact List.mem_append_left _ (h.hd r hr)
    · rw [List.mem_singleton.mp hr, hh]
      simp
  · rw [List.length_append, List.length_append]
    exact Nat.add_le_add_right h.len 1
theorem LotsAt.fin (G : Gs n g) (h : LotsAt n g (plL n) rows) : LotsOk n g rows :=
  ⟨h.lot, fun t ht => h.had t (((pl_facts G.two G.five).2 t).mpr ht), h.srt, Nat.le_trans h.len (pl_len G.two G.five)⟩
end
end TC

set_option Elab.async false
set_option linter.all false
set_option maxRecDepth 100000
set_option maxHeartbeats 4000000
namespace TC
open PySem PySem.Spec PyProof.Rows L2
theorem putD_nodup {ks : List (List Int)} {ds : List D} {k : List Int} {d : D} (h : ks.Nodup) : (putD ks ds k d).1.Nodup ∧ ∀ t, t ∈ (putD ks ds k d).1 ↔ t ∈ ks ∨ t = k := by
  unfold putD
  by_cases hc : ks.contains k = true
  · rw [if_pos hc]
    have hk : k ∈ ks := by simpa using hc
    exact ⟨h, fun t => ⟨.inl, fun q => q.elim id fun e => e ▸ hk⟩⟩
  · rw [if_neg hc]
    have hk : ¬ k ∈ ks := fun q => hc (by simpa using q)
    refine ⟨List.nodup_append.mpr ⟨h, by simp, fun a ha b hb e => ?_⟩, fun t => by simp⟩
    rw [List.mem_singleton.mp hb] at e
    exact hk (e ▸ ha)
theorem pures_lots (rows : List (List (List Int))) : pures (rows.map lotD) = true := pures_of fun d h => by
  obtain ⟨r, _, rfl⟩ := List.mem_map.mp h
  exact pures_rows r
theorem ks_small {n : Nat} {ks : List (List Int)} (nk : ks.Nodup) (h : ∀ t ∈ ks, Tn n t) : ks.length < big := by
  have := tn_len nk h
  unfold big
  omega
theorem pure_lots (K : PySem.W.Frag) (A : Adr) (ds : List D) (R : D → Prop) (Z : Addr → Prop) (hl : ds.length = 2) (h : sp_lots A ds R Z) : w_lots K A (gam0 7 ds) [] (Pt R Z) := by
  obtain ⟨x, y, rfl, oy, zs, yes⟩ := h
  unfold w_lots
  refine seqK fun k hk => ?_
  simp only [wSeq, wNext, wRet, wDrop, wAsg, wPar, wIf, wBrk, wCnt, wRaise, wIte, wAndV, wOrV, wNotV, wNeg, wAnd, wOr, wNot, wTest, wCB, wCons, wNil, wVar, wC, wBin, wTup, wLst, wLstM, wFrz, wIsN, wOrL, wDict0, wIt, wRng1, wRng2, wMeth, wMethT, wNoP, wPt, wSl, wRev, wRgs, fTupR, fLstR, fLstRM, rgM, wCall, wYes, bOf, gam0, List.map_cons, List.map_nil, List.length_cons, List.length_nil, List.replicate, List.cons_append, List.nil_append, List.append_nil, List.getElem?_cons_zero, List.getElem?_cons_succ, List.set_cons_zero, List.set_cons_succ, Nat.add_sub_cancel, Nat.sub_self, Nat.sub_zero, Nat.reduceAdd, Nat.reduceSub, Nat.zero_add, if_true, if_false, Bool.false_eq_true, Bool.not_true, Bool.not_false, true_and, and_true, Bool.and_true, Bool.true_and]
  refine ⟨pures_1 (okT_pure oy), y, rfl, oy, fun h => hk _ _ ?_, zs⟩
  clear hk k
  obtain ⟨n, rfl, n2, n5⟩ := isSize_num h
  obtain ⟨ox, hx, no, ok⟩ := yes n rfl n2 n5
  have px := okD_pure ox
  refine seqK fun k hk => ?_
  simp only [wSeq, wNext, wRet, wDrop, wAsg, wPar, wIf, wBrk, wCnt, wRaise, wIte, wAndV, wOrV, wNotV, wNeg, wAnd, wOr, wNot, wTest, wCB, wCons, wNil, wVar, wC, wBin, wTup, wLst, wLstM, wFrz, wIsN, wOrL, wDict0, wIt, wRng1, wRng2, wMeth, wMethT, wNoP, wPt, wSl, wRev, wRgs, fTupR, fLstR, fLstRM, rgM, wCall, wYes, bOf, gam0, List.map_cons, List.map_nil, List.length_cons, List.length_nil, List.replicate, List.cons_append, List.nil_append, List.append_nil, List.getElem?_cons_zero, List.getElem?_cons_succ, List.set_cons_zero, List.set_cons_succ, Nat.add_sub_cancel, Nat.sub_self, Nat.sub_zero, Nat.reduceAdd, Nat.reduceSub, Nat.zero_add, if_true, if_false, Bool.false_eq_true, Bool.not_true, Bool.not_false, true_and, and_true, Bool.and_true, Bool.true_and]
  refine ⟨by decide, pures_2 px rfl, x, n, rfl, ⟨n2, n5⟩, ox, hx, no, fun g ex tt G => hk _ _ ?_⟩
  clear hk k
  subst ex
  have Gg : Gs n g := ⟨n2, n5, tt, G⟩
  refine seqK fun k hk => ?_
  simp only [wSeq, wNext, wRet, wDrop, wAsg, wPar, wIf, wBrk, wCnt, wRaise, wIte, wAndV, wOrV, wNotV, wNeg, wAnd, wOr, wNot, wTest, wCB, wCons, wNil, wVar, wC, wBin, wTup, wLst, wLstM, wFrz, wIsN, wOrL, wDict0, wIt, wRng1, wRng2, wMeth, wMethT, wNoP, wPt, wSl, wRev, wRgs, fTupR, fLstR, fLstRM, rgM, wCall, wYes, bOf, gam0, List.map_cons, List.map_nil, List.length_cons, List.length_nil, List.replicate, List.cons_append, List.nil_append, List.append_nil, List.getElem?_cons_zero, List.getElem?_cons_succ, List.set_cons_zero, List.set_cons_succ, Nat.add_sub_cancel, Nat.sub_self, Nat.sub_zero, Nat.reduceAdd, Nat.reduceSub, Nat.zero_add, if_true, if_false, Bool.false_eq_true, Bool.not_true, Bool.not_false, true_and, and_true, Bool.and_true, Bool.true_and]
  refine ⟨by decide, hk _ _ ?_⟩
  clear hk k
  refine seqK fun k hk => ?_
  simp only [wDictM, wSeq, wNext, wRet, wDrop, wAsg, wPar, wIf, wBrk, wCnt, wRaise, wIte, wAndV, wOrV, wNotV, wNeg, wAnd, wOr, wNot, wTest, wCB, wCons, wNil, wVar, wC, wBin, wTup, wLst, wLstM, wFrz, wIsN, wOrL, wDict0, wIt, wRng1, wRng2, wMeth, wMethT, wNoP, wPt, wSl, wRev, wRgs, fTupR, fLstR, fLstRM, rgM, wCall, wYes, bOf, gam0, List.map_cons, List.map_nil, List.length_cons, List.length_nil, List.replicate, List.cons_append, List.nil_append, List.append_nil, List.getElem?_cons_zero, List.getElem?_cons_succ, List.set_cons_zero, List.set_cons_succ, Nat.add_sub_cancel, Nat.sub_self, Nat.sub_zero, Nat.reduceAdd, Nat.reduceSub, Nat.zero_add, if_true, if_false, Bool.false_eq_true, Bool.not_true, Bool.not_false, true_and, and_true, Bool.and_true, Bool.true_and]
  refine hk _ _ ?_
  clear hk k
  refine seqK fun k hk => ?_
  simp only [wForPm, wSeq, wNext, wRet, wDrop, wAsg, wPar, wIf, wBrk, wCnt, wRaise, wIte, wAndV, wOrV, wNotV, wNeg, wAnd, wOr, wNot, wTest, wCB, wCons, wNil, wVar, wC, wBin, wTup, wLst, wLstM, wFrz, wIsN, wOrL, wDict0, wIt, wRng1, wRng2, wMeth, wMethT, wNoP, wPt, wSl, wRev, wRgs, fTupR, fLstR, fLstRM, rgM, wCall, wYes, bOf, gam0, List.map_cons, List.map_nil, List.length_cons, List.length_nil, List.replicate, List.cons_append, List.nil_append, List.append_nil, List.getElem?_cons_zero, List.getElem?_cons_succ, List.set_cons_zero, List.set_cons_succ, Nat.add_sub_cancel, Nat.sub_self, Nat.sub_zero, Nat.reduceAdd, Nat.reduceSub, Nat.zero_add, if_true, if_false, Bool.false_eq_true, Bool.not_true, Bool.not_false, true_and, and_true, Bool.and_true, Bool.true_and]
  refine ⟨n, rfl, by omega, ?_⟩
  rw [pl_D]
  refine wForL_go (fun rest Γ μ => ∃ (done rest' : List (List Int)) (rows : List (List (List Int))) (ks : List (List Int)) (vs : List D) (d4 d5 d6 : Option D), plL n = done ++ rest' ∧ rest = rest'.map tI ∧
    Γ = [some (D.tup (g.map tI)), some (D.int (n : Int)), some (.mt 0), some (.mt 1), d4, d5, d6] ∧ μ = [.lst (rows.map lotD), .dt ks vs] ∧ LotsAt n g done rows ∧ ks.Nodup ∧ ∀ t, t ∈ ks ↔ ∃ r ∈ rows, t ∈ r) ?_ ?_ _ _ _
    ⟨[], plL n, [], [], [], _, _, _, rfl, rfl, rfl, rfl, LotsAt.nil, .nil, fun t => by simp⟩
  · rintro Γ μ ⟨done, rest', rows, ks, vs, d4, d5, d6, e1, e2, rfl, rfl, L, nk, hk2⟩
    have e3 : rest' = [] := by simpa using e2
    subst e3
    rw [List.append_nil] at e1
    rw [← e1] at L
    refine hk _ _ ?_
    simp only [fFrz, wSeq, wNext, wRet, wDrop, wAsg, wPar, wIf, wBrk, wCnt, wRaise, wIte, wAndV, wOrV, wNotV, wNeg, wAnd, wOr, wNot, wTest, wCB, wCons, wNil, wVar, wC, wBin, wTup, wLst, wLstM, wFrz, wIsN, wOrL, wDict0, wIt, wRng1, wRng2, wMeth, wMethT, wNoP, wPt, wSl, wRev, wRgs, fTupR, fLstR, fLstRM, rgM, wCall, wYes, bOf, gam0, List.map_cons, List.map_nil, List.length_cons, List.length_nil, List.replicate, List.cons_append, List.nil_append, List.append_nil, List.getElem?_cons_zero, List.getElem?_cons_succ, List.set_cons_zero, List.set_cons_succ, Nat.add_sub_cancel, Nat.sub_self, Nat.sub_zero, Nat.reduceAdd, Nat.reduceSub, Nat.zero_add, if_true, if_false, Bool.false_eq_true, Bool.not_true, Bool.not_false, true_and, and_true, Bool.and_true, Bool.true_and]
    exact ⟨pures_lots rows, ok g rfl tt G rows (L.fin Gg)⟩
  · rintro d r' Γ μ ⟨done, rest', rows, ks, vs, d4, d5, d6, e1, e2, rfl, rfl, L, nk, hk2⟩ nx hnx
    cases rest' with
    | nil => cases e2
    | cons t rest' =>
      rw [List.map_cons] at e2
      obtain ⟨rfl, rfl⟩ := List.cons.inj e2
      have tt' : Tn n t := ((pl_facts n2 n5).2 t).mp (by rw [e1]; simp)
      refine seqK fun k1 hk1 => ?_
      simp only [dDIn, dtOf, keyD_tI, wSeq, wNext, wRet, wDrop, wAsg, wPar, wIf, wBrk, wCnt, wRaise, wIte, wAndV, wOrV, wNotV, wNeg, wAnd, wOr, wNot, wTest, wCB, wCons, wNil, wVar, wC, wBin, wTup, wLst, wLstM, wFrz, wIsN, wOrL, wDict0, wIt, wRng1, wRng2, wMeth, wMethT, wNoP, wPt, wSl, wRev, wRgs, fTupR, fLstR, fLstRM, rgM, wCall, wYes, bOf, gam0, List.map_cons, List.map_nil, List.length_cons, List.length_nil, List.replicate, List.cons_append, List.nil_append, List.append_nil, List.getElem?_cons_zero, List.getElem?_cons_succ, List.set_cons_zero, List.set_cons_succ, Nat.add_sub_cancel, Nat.sub_self, Nat.sub_zero, Nat.reduceAdd, Nat.reduceSub, Nat.zero_add, if_true, if_false, Bool.false_eq_true, Bool.not_true, Bool.not_false, true_and, and_true, Bool.and_true, Bool.true_and]
      cases hc : ks.contains t with
      | true =>
        show if (false : Bool) = true then _ else _
        rw [if_neg (by decide)]
        refine hk1 _ _ ?_
        simp only [wSeq, wNext, wRet, wDrop, wAsg, wPar, wIf, wBrk, wCnt, wRaise, wIte, wAndV, wOrV, wNotV, wNeg, wAnd, wOr, wNot, wTest, wCB, wCons, wNil, wVar, wC, wBin, wTup, wLst, wLstM, wFrz, wIsN, wOrL, wDict0, wIt, wRng1, wRng2, wMeth, wMethT, wNoP, wPt, wSl, wRev, wRgs, fTupR, fLstR, fLstRM, rgM, wCall, wYes, bOf, gam0, List.map_cons, List.map_nil, List.length_cons, List.length_nil, List.replicate, List.cons_append, List.nil_append, List.append_nil, List.getElem?_cons_zero, List.getElem?_cons_succ, List.set_cons_zero, List.set_cons_succ, Nat.add_sub_cancel, Nat.sub_self, Nat.sub_zero, Nat.reduceAdd, Nat.reduceSub, Nat.zero_add, if_true, if_false, Bool.false_eq_true, Bool.not_true, Bool.not_false, true_and, and_true, Bool.and_true, Bool.true_and]
        exact hnx _ _ ⟨done ++ [t], rest', rows, ks, vs, _, _, _, by rw [e1]; simp, rfl, rfl, rfl, L.old ((hk2 t).mp (by simpa using hc)), nk, hk2⟩
      | false =>
        show if (true : Bool) = true then _ else _
        rw [if_pos rfl]
        refine ⟨pures_2 (pure_tI _) px, t, g, n, rfl, tt', ⟨n2, n5⟩, tt, G, fun c hc2 => ⟨rfl, ?_⟩⟩
        have nt : ¬ ∃ r ∈ rows, t ∈ r := fun q => by
          have := (hk2 t).mpr q
          simp [this] at hc
        obtain ⟨L', fresh⟩ := L.new Gg e1 nt hc2
        have rl : rows.length ≤ 120 := Nat.le_trans L.len (by
          have := pl_len n2 n5
          rw [e1, List.length_append] at this
          omega)
        have cn := ltL_nodup hc2.2
        have ctn : ∀ u ∈ c, Tn n u := fun u hu => hc2.tn Gg tt' hu
        have rtn : ∀ u, (∃ r ∈ rows, u ∈ r) → Tn n u := fun u ⟨r, hr, hu⟩ => by
          obtain ⟨a, ta, ha⟩ := L.lot r hr
          exact ha.tn Gg ta hu
        simp only [dAppend, wSeq, wNext, wRet, wDrop, wAsg, wPar, wIf, wBrk, wCnt, wRaise, wIte, wAndV, wOrV, wNotV, wNeg, wAnd, wOr, wNot, wTest, wCB, wCons, wNil, wVar, wC, wBin, wTup, wLst, wLstM, wFrz, wIsN, wOrL, wDict0, wIt, wRng1, wRng2, wMeth, wMethT, wNoP, wPt, wSl, wRev, wRgs, fTupR, fLstR, fLstRM, rgM, wCall, wYes, bOf, gam0, List.map_cons, List.map_nil, List.length_cons, List.length_nil, List.replicate, List.cons_append, List.nil_append, List.append_nil, List.getElem?_cons_zero, List.getElem?_cons_succ, List.set_cons_zero, List.set_cons_succ, Nat.add_sub_cancel, Nat.sub_self, Nat.sub_zero, Nat.reduceAdd, Nat.reduceSub, Nat.zero_add, if_true, if_false, Bool.false_eq_true, Bool.not_true, Bool.not_false, true_and, and_true, Bool.and_true, Bool.true_and]
        refine ⟨by rw [List.length_map]; unfold big; omega, ?_⟩
        simp only [wFor, lotD, itemsI, wSeq, wNext, wRet, wDrop, wAsg, wPar, wIf, wBrk, wCnt, wRaise, wIte, wAndV, wOrV, wNotV, wNeg, wAnd, wOr, wNot, wTest, wCB, wCons, wNil, wVar, wC, wBin, wTup, wLst, wLstM, wFrz, wIsN, wOrL, wDict0, wIt, wRng1, wRng2, wMeth, wMethT, wNoP, wPt, wSl, wRev, wRgs, fTupR, fLstR, fLstRM, rgM, wCall, wYes, bOf, gam0, List.map_cons, List.map_nil, List.length_cons, List.length_nil, List.replicate, List.cons_append, List.nil_append, List.append_nil, List.getElem?_cons_zero, List.getElem?_cons_succ, List.set_cons_zero, List.set_cons_succ, Nat.add_sub_cancel, Nat.sub_self, Nat.sub_zero, Nat.reduceAdd, Nat.reduceSub, Nat.zero_add, if_true, if_false, Bool.false_eq_true, Bool.not_true, Bool.not_false, true_and, and_true, Bool.and_true, Bool.true_and]
        refine wForL_go (fun r2 Γ μ => ∃ (done2 rest2 ks' : List (List Int)) (vs' : List D) (d6 : Option D), c = done2 ++ rest2 ∧ r2 = rest2.map tI ∧
          Γ = [some (D.tup (g.map tI)), some (D.int (n : Int)), some (.mt 0), some (.mt 1), some (tI t), some (lotD c), d6] ∧ μ = [.lst ((rows ++ [c]).map lotD), .dt ks' vs'] ∧ ks'.Nodup ∧ ∀ u, u ∈ ks' ↔ (∃ r ∈ rows, u ∈ r) ∨ u ∈ done2) ?_ ?_ _ _ _
          ⟨[], c, ks, vs, d6, rfl, rfl, rfl, by rw [List.map_append]; rfl, nk, fun u => by simpa using hk2 u⟩
        · rintro Γ μ ⟨done2, rest2, ks', vs', d6, f1, f2, rfl, rfl, nk', hk'⟩
          have e3 : rest2 = [] := by simpa using f2
          subst e3
          rw [List.append_nil] at f1
          subst f1
          refine hk1 _ _ ?_
          simp only [wSeq, wNext, wRet, wDrop, wAsg, wPar, wIf, wBrk, wCnt, wRaise, wIte, wAndV, wOrV, wNotV, wNeg, wAnd, wOr, wNot, wTest, wCB, wCons, wNil, wVar, wC, wBin, wTup, wLst, wLstM, wFrz, wIsN, wOrL, wDict0, wIt, wRng1, wRng2, wMeth, wMethT, wNoP, wPt, wSl, wRev, wRgs, fTupR, fLstR, fLstRM, rgM, wCall, wYes, bOf, gam0, List.map_cons, List.map_nil, List.length_cons, List.length_nil, List.replicate, List.cons_append, List.nil_append, List.append_nil, List.getElem?_cons_zero, List.getElem?_cons_succ, List.set_cons_zero, List.set_cons_succ, Nat.add_sub_cancel, Nat.sub_self, Nat.sub_zero, Nat.reduceAdd, Nat.reduceSub, Nat.zero_add, if_true, if_false, Bool.false_eq_true, Bool.not_true, Bool.not_false, true_and, and_true, Bool.and_true, Bool.true_and]
          refine hnx _ _ ⟨done ++ [t], rest', rows ++ [c], ks', vs', _, _, _, by rw [e1]; simp, rfl, rfl, rfl, L', nk', fun u => ?_⟩
          rw [hk' u]
          constructor
          · rintro (⟨r, hr, hu⟩ | hu)
            · exact ⟨r, List.mem_append_left _ hr, hu⟩
            · exact ⟨c, by simp, hu⟩
          · rintro ⟨r, hr, hu⟩
            rcases List.mem_append.mp hr with hr | hr
            · exact .inl ⟨r, hr, hu⟩
            · rw [List.mem_singleton.mp hr] at hu
              exact .inr hu
        · rintro d r3 Γ μ ⟨done2, rest2, ks', vs', d6, f1, f2, rfl, rfl, nk', hk'⟩ nx2 hnx2
          cases rest2 with
          | nil => cases f2
          | cons u rest2 =>
            rw [List.map_cons] at f2
            obtain ⟨rfl, rfl⟩ := List.cons.inj f2
            have small : ks'.length < big := ks_small nk' fun v hv => by
              rcases (hk' v).mp hv with q | q
              · exact rtn v q
              · exact ctn v (by rw [f1]; exact List.mem_append_left _ q)
            simp only [wSetK, keyD_tI, wSeq, wNext, wRet, wDrop, wAsg, wPar, wIf, wBrk, wCnt, wRaise, wIte, wAndV, wOrV, wNotV, wNeg, wAnd, wOr, wNot, wTest, wCB, wCons, wNil, wVar, wC, wBin, wTup, wLst, wLstM, wFrz, wIsN, wOrL, wDict0, wIt, wRng1, wRng2, wMeth, wMethT, wNoP, wPt, wSl, wRev, wRgs, fTupR, fLstR, fLstRM, rgM, wCall, wYes, bOf, gam0, List.map_cons, List.map_nil, List.length_cons, List.length_nil, List.replicate, List.cons_append, List.nil_append, List.append_nil, List.getElem?_cons_zero, List.getElem?_cons_succ, List.set_cons_zero, List.set_cons_succ, Nat.add_sub_cancel, Nat.sub_self, Nat.sub_zero, Nat.reduceAdd, Nat.reduceSub, Nat.zero_add, if_true, if_false, Bool.false_eq_true, Bool.not_true, Bool.not_false, true_and, and_true, Bool.and_true, Bool.true_and]
            refine ⟨small, hnx2 _ _ ?_⟩
            obtain ⟨p1, p2⟩ := putD_nodup (ds := vs') (k := u) (d := .bl true) nk'
            refine ⟨done2 ++ [u], rest2, _, _, _, by rw [f1]; simp, rfl, rfl, rfl, p1, fun v => ?_⟩
            rw [p2 v, hk' v, List.mem_append, List.mem_singleton, or_assoc]
end TC

set_option Elab.async false
set_option linter.all false
set_option maxRecDepth 100000
set_option maxHeartbeats 4000000
namespace TC
open PySem PySem.Spec PyProof.Rows L2
theorem pure_law_pick (K : PySem.W.Frag) (A : Adr) (ds : List D) (R : D → Prop) (Z : Addr → Prop) (hl : ds.length = 2) (h : s6_law_pick A ds R Z) : w_law_pick K A (gam0 2 ds) [] (Pt R Z) := by
  obtain ⟨x, xs, rfl, hx, h1, h2, hp, r⟩ := h
  have hl : 0 < xs.length := List.length_pos_iff.mpr h1
  have hix : items x [] = some xs := by
    cases x <;> first | (cases hx; rfl) | cases hx
  simp only [w_law_pick, dLen, hix, dIx, wSeq, wNext, wRet, wDrop, wAsg, wPar, wIf, wBrk, wCnt, wRaise, wIte, wAndV, wOrV, wNotV, wNeg, wAnd, wOr, wNot, wTest, wCB, wCons, wNil, wVar, wC, wBin, wTup, wLst, wLstM, wFrz, wIsN, wOrL, wDict0, wIt, wRng1, wRng2, wMeth, wMethT, wNoP, wPt, wSl, wRev, wRgs, fTupR, fLstR, fLstRM, rgM, wCall, wYes, bOf, gam0, List.map_cons, List.map_nil, List.length_cons, List.length_nil, List.replicate, List.cons_append, List.nil_append, List.append_nil, List.getElem?_cons_zero, List.getElem?_cons_succ, List.set_cons_zero, List.set_cons_succ, Nat.add_sub_cancel, Nat.sub_self, Nat.sub_zero, Nat.reduceAdd, Nat.reduceSub, Nat.zero_add, if_true, if_false, Bool.false_eq_true, Bool.not_true, Bool.not_false, true_and, and_true, pures, D.pure, Bool.and_true, Bool.true_and]
  refine ⟨_, rfl, by omega, by omega, fun i i0 i1 => ?_⟩
  have hi : i.toNat < xs.length := by omega
  have hg : xs[i.toNat]? = some xs[i.toNat] := List.getElem?_eq_getElem hi
  have hm := List.mem_of_getElem? hg
  simp only [wSeq, wNext, wRet, wDrop, wAsg, wPar, wIf, wBrk, wCnt, wRaise, wIte, wAndV, wOrV, wNotV, wNeg, wAnd, wOr, wNot, wTest, wCB, wCons, wNil, wVar, wC, wBin, wTup, wLst, wLstM, wFrz, wIsN, wOrL, wDict0, wIt, wRng1, wRng2, wMeth, wMethT, wNoP, wPt, wSl, wRev, wRgs, fTupR, fLstR, fLstRM, rgM, wCall, wYes, bOf, gam0, List.map_cons, List.map_nil, List.length_cons, List.length_nil, List.replicate, List.cons_append, List.nil_append, List.append_nil, List.getElem?_cons_zero, List.getElem?_cons_succ, List.set_cons_zero, List.set_cons_succ, Nat.add_sub_cancel, Nat.sub_self, Nat.sub_zero, Nat.reduceAdd, Nat.reduceSub, Nat.zero_add, if_true, if_false, Bool.false_eq_true, Bool.not_true, Bool.not_false, true_and, and_true, pures, D.pure, Bool.and_true, Bool.true_and]
  rw [atI_in i0 hg]
  exact ⟨pures_mem hp _ hm, r _ hm⟩
structure EX5 (K : PySem.W.Frag) (A : Adr) : Prop where
  f : ExF K A
  m : PySem.W.exmOne K (.ref A.c_NoGroup) (.ref A.c_CoatError) = some true
  x : ExcC K A.c_NoGroup
  s : PySem.W.kitOne K (.ref A.c_NoGroup) (.ref A.c_NoSize) = some false
  t : PySem.W.kitOne K (.ref A.c_NoGroup) (.ref A.c_NoTurn) = some false
  g : PySem.W.kitOne K (.ref A.c_NoGroup) (.ref A.c_NoGroup) = some true
  v : PySem.W.kitOne K (.ref A.c_NoGroup) (.type "ValueError") = some true
theorem grpAt.imp {x : D} {n : Nat} {ok ok' : List (List Int) → Prop} {no no' : Prop} (h : grpAt x n ok no) (h1 : ∀ g, ok g → ok' g) (h2 : no → no') : grpAt x n ok' no' :=
  ⟨h.1, h.2.1, fun q => h2 (h.2.2.1 q), fun g a b c => h1 g (h.2.2.2 g a b c)⟩
section
variable {A : Adr} {ds : List D} {R R' : D → Prop} {Z Z' : Addr → Prop}
theorem lot_imp (h : sp_lot A ds R Z) (hr : ∀ d, R d → R' d) (hz : ∀ c, Z c → Z' c) : sp_lot A ds R' Z' := by
  obtain ⟨x, y, e, ox, zt, yes⟩ := h
  exact ⟨x, y, e, ox, fun q => hz _ (zt q), fun a n e1 ta n2 n5 => (yes a n e1 ta n2 n5).imp (fun g q c hc => hr _ (q c hc)) (hz _)⟩
theorem lots_imp (h : sp_lots A ds R Z) (hr : ∀ d, R d → R' d) (hz : ∀ c, Z c → Z' c) : sp_lots A ds R' Z' := by
  obtain ⟨x, y, e, oy, zs, yes⟩ := h
  exact ⟨x, y, e, oy, fun q => hz _ (zs q), fun n e1 n2 n5 => (yes n e1 n2 n5).imp (fun g q rows hc => hr _ (q rows hc)) (hz _)⟩
theorem lot_pure (h : sp_lot A ds R Z) : sp_lot A ds (fun d => d.pure = true ∧ R d) Z := by
  obtain ⟨x, y, e, ox, zt, yes⟩ := h
  exact ⟨x, y, e, ox, zt, fun a n e1 ta n2 n5 => (yes a n e1 ta n2 n5).imp (fun g q c hc => ⟨pures_rows c, q c hc⟩) id⟩
theorem lots_pure (h : sp_lots A ds R Z) : sp_lots A ds (fun d => d.pure = true ∧ R d) Z := by
  obtain ⟨x, y, e, oy, zs, yes⟩ := h
  exact ⟨x, y, e, oy, zs, fun n e1 n2 n5 => (yes n e1 n2 n5).imp (fun g q rows hc => ⟨pures_lots rows, q rows hc⟩) id⟩
theorem done_imp (h : s5_law_done A ds R Z) (hr : ∀ d, R d → R' d) (hz : ∀ c, Z c → Z' c) : s5_law_done A ds R' Z' := by
  obtain ⟨w, x, y, e, p, h⟩ := h
  exact ⟨w, x, y, e, p, h.imp (fun q => ⟨q.1, lot_imp q.2 hr hz⟩) (fun q => ⟨q.1, lots_imp q.2 hr hz⟩)⟩
end
theorem pure_law_all (K : PySem.W.Frag) (A : Adr) (ds : List D) (R : D → Prop) (Z : Addr → Prop) (hl : ds.length = 1) (h : s5_law_all A ds R Z) : w_law_all K A (gam0 1 ds) [] (Pt R Z) := by
  obtain ⟨n, rfl, ⟨n2, n5⟩, r⟩ := h
  simp only [w_law_all, dIx, items, wSeq, wNext, wRet, wDrop, wAsg, wPar, wIf, wBrk, wCnt, wRaise, wIte, wAndV, wOrV, wNotV, wNeg, wAnd, wOr, wNot, wTest, wCB, wCons, wNil, wVar, wC, wBin, wTup, wLst, wLstM, wFrz, wIsN, wOrL, wDict0, wIt, wRng1, wRng2, wMeth, wMethT, wNoP, wPt, wSl, wRev, wRgs, fTupR, fLstR, fLstRM, rgM, wCall, wYes, bOf, gam0, List.map_cons, List.map_nil, List.length_cons, List.length_nil, List.replicate, List.cons_append, List.nil_append, List.append_nil, List.getElem?_cons_zero, List.getElem?_cons_succ, List.set_cons_zero, List.set_cons_succ, Nat.add_sub_cancel, Nat.sub_self, Nat.sub_zero, Nat.reduceAdd, Nat.reduceSub, Nat.zero_add, if_true, if_false, Bool.false_eq_true, Bool.not_true, Bool.not_false, true_and, and_true, Bool.and_true, Bool.true_and]
  refine ⟨by decide, ?_⟩
  have : n = 2 ∨ n = 3 ∨ n = 4 ∨ n = 5 := by omega
  rcases this with e | e | e | e <;> subst e <;> exact ⟨rfl, r⟩
theorem pure_law_done (K : PySem.W.Frag) (A : Adr) (ds : List D) (R : D → Prop) (Z : Addr → Prop) (hl : ds.length = 3) (h : s5_law_done A ds R Z) : w_law_done K A (gam0 3 ds) [] (Pt R Z) := by
  obtain ⟨w, x, y, rfl, ⟨px, py⟩, h⟩ := h
  have e1 : eqOk (.str "lot") = true := by decide +kernel
  have e2 : eqOk (.str "lots") = true := by decide +kernel
  rcases h with ⟨rfl, h⟩ | ⟨rfl, h⟩
  all_goals simp only [w_law_done, dEq, res, e1, e2, deq_str, wSeq, wNext, wRet, wDrop, wAsg, wPar, wIf, wBrk, wCnt, wRaise, wIte, wAndV, wOrV, wNotV, wNeg, wAnd, wOr, wNot, wTest, wCB, wCons, wNil, wVar, wC, wBin, wTup, wLst, wLstM, wFrz, wIsN, wOrL, wDict0, wIt, wRng1, wRng2, wMeth, wMethT, wNoP, wPt, wSl, wRev, wRgs, fTupR, fLstR, fLstRM, rgM, wCall, wYes, bOf, gam0, List.map_cons, List.map_nil, List.length_cons, List.length_nil, List.replicate, List.cons_append, List.nil_append, List.append_nil, List.getElem?_cons_zero, List.getElem?_cons_succ, List.set_cons_zero, List.set_cons_succ, Nat.add_sub_cancel, Nat.sub_self, Nat.sub_zero, Nat.reduceAdd, Nat.reduceSub, Nat.zero_add, if_true, if_false, Bool.false_eq_true, Bool.not_true, Bool.not_false, true_and, and_true, Bool.and_true, Bool.true_and]
  · rw [if_pos (by decide)]
    exact ⟨pures_2 px py, lot_pure h⟩
  · rw [if_neg (by decide)]
    exact ⟨pures_2 px py, lots_pure h⟩
theorem pure_law_tried (K : PySem.W.Frag) (A : Adr) (X : EX5 K A) (ds : List D) (R : D → Prop) (Z : Addr → Prop) (hl : ds.length = 3) (h : s5_law_tried A ds R Z) : w_law_tried K A (gam0 6 ds) [] (Pt R Z) := by
  obtain ⟨w, x, y, rfl, h⟩ := h
  simp only [w_law_tried, wTry, wSeq, wNext, wRet, wDrop, wAsg, wPar, wIf, wBrk, wCnt, wRaise, wIte, wAndV, wOrV, wNotV, wNeg, wAnd, wOr, wNot, wTest, wCB, wCons, wNil, wVar, wC, wBin, wTup, wLst, wLstM, wFrz, wIsN, wOrL, wDict0, wIt, wRng1, wRng2, wMeth, wMethT, wNoP, wPt, wSl, wRev, wRgs, fTupR, fLstR, fLstRM, rgM, wCall, wYes, bOf, gam0, List.map_cons, List.map_nil, List.length_cons, List.length_nil, List.replicate, List.cons_append, List.nil_append, List.append_nil, List.getElem?_cons_zero, List.getElem?_cons_succ, List.set_cons_zero, List.set_cons_succ, Nat.add_sub_cancel, Nat.sub_self, Nat.sub_zero, Nat.reduceAdd, Nat.reduceSub, Nat.zero_add, if_true, if_false, Bool.false_eq_true, Bool.not_true, Bool.not_false, true_and, and_true, Bool.and_true, Bool.true_and]
  have pp : pures [D.str w, x, y] = true := by
    obtain ⟨w', x', y', e, ⟨p1, p2⟩, _⟩ := h
    cases e
    exact pures_of fun d hd => by
      simp only [List.mem_cons, List.not_mem_nil, or_false] at hd
      rcases hd with rfl | rfl | rfl
      · rfl
      · exact p1
      · exact p2
  refine ⟨pp, done_imp h (fun d q => ⟨rfl, q⟩) fun c hz => ⟨⟨by decide, by decide⟩, ?_⟩⟩
  rcases hz with ⟨rfl, q⟩ | ⟨rfl, q⟩ | ⟨rfl, q⟩
  · refine .inl ⟨X.f.m_size, ?_⟩
    simp only [isNon, dIsi, wSeq, wNext, wRet, wDrop, wAsg, wPar, wIf, wBrk, wCnt, wRaise, wIte, wAndV, wOrV, wNotV, wNeg, wAnd, wOr, wNot, wTest, wCB, wCons, wNil, wVar, wC, wBin, wTup, wLst, wLstM, wFrz, wIsN, wOrL, wDict0, wIt, wRng1, wRng2, wMeth, wMethT, wNoP, wPt, wSl, wRev, wRgs, fTupR, fLstR, fLstRM, rgM, wCall, wYes, bOf, gam0, List.map_cons, List.map_nil, List.length_cons, List.length_nil, List.replicate, List.cons_append, List.nil_append, List.append_nil, List.getElem?_cons_zero, List.getElem?_cons_succ, List.set_cons_zero, List.set_cons_succ, Nat.add_sub_cancel, Nat.sub_self, Nat.sub_zero, Nat.reduceAdd, Nat.reduceSub, Nat.zero_add, if_true, if_false, Bool.false_eq_true, Bool.not_true, Bool.not_false, true_and, and_true, Bool.and_true, Bool.true_and]
    refine ⟨true, ⟨X.f.x_size, X.f.k_ss⟩, false, ⟨X.f.x_size, X.f.k_st⟩, false, ⟨X.f.x_size, X.f.k_sg⟩, by decide, ?_⟩
    simp only [dCountL, isLst, dCount, items, dNe, res, eqOk_int, deq_int, deq_bl, dIndex, dIx, wSeq, wNext, wRet, wDrop, wAsg, wPar, wIf, wBrk, wCnt, wRaise, wIte, wAndV, wOrV, wNotV, wNeg, wAnd, wOr, wNot, wTest, wCB, wCons, wNil, wVar, wC, wBin, wTup, wLst, wLstM, wFrz, wIsN, wOrL, wDict0, wIt, wRng1, wRng2, wMeth, wMethT, wNoP, wPt, wSl, wRev, wRgs, fTupR, fLstR, fLstRM, rgM, wCall, wYes, bOf, gam0, List.map_cons, List.map_nil, List.length_cons, List.length_nil, List.replicate, List.cons_append, List.nil_append, List.append_nil, List.getElem?_cons_zero, List.getElem?_cons_succ, List.set_cons_zero, List.set_cons_succ, Nat.add_sub_cancel, Nat.sub_self, Nat.sub_zero, Nat.reduceAdd, Nat.reduceSub, Nat.zero_add, if_true, if_false, Bool.false_eq_true, Bool.not_true, Bool.not_false, true_and, and_true, Bool.and_true, Bool.true_and]
    refine ⟨⟨rfl, rfl⟩, true, ⟨X.f.x_size, X.f.k_sv⟩, ?_⟩
    rw [if_neg (by decide)]
    refine ⟨by decide, ⟨rfl, rfl⟩, 0, .bl true, ⟨rfl, by rw [deq_bl]; rfl, fun m z' hm => by omega⟩, ?_⟩
    exact ⟨rfl, q⟩
  · refine .inl ⟨X.f.m_turn, ?_⟩
    simp only [isNon, dIsi, wSeq, wNext, wRet, wDrop, wAsg, wPar, wIf, wBrk, wCnt, wRaise, wIte, wAndV, wOrV, wNotV, wNeg, wAnd, wOr, wNot, wTest, wCB, wCons, wNil, wVar, wC, wBin, wTup, wLst, wLstM, wFrz, wIsN, wOrL, wDict0, wIt, wRng1, wRng2, wMeth, wMethT, wNoP, wPt, wSl, wRev, wRgs, fTupR, fLstR, fLstRM, rgM, wCall, wYes, bOf, gam0, List.map_cons, List.map_nil, List.length_cons, List.length_nil, List.replicate, List.cons_append, List.nil_append, List.append_nil, List.getElem?_cons_zero, List.getElem?_cons_succ, List.set_cons_zero, List.set_cons_succ, Nat.add_sub_cancel, Nat.sub_self, Nat.sub_zero, Nat.reduceAdd, Nat.reduceSub, Nat.zero_add, if_true, if_false, Bool.false_eq_true, Bool.not_true, Bool.not_false, true_and, and_true, Bool.and_true, Bool.true_and]
    refine ⟨false, ⟨X.f.x_turn, X.f.k_ts⟩, true, ⟨X.f.x_turn, X.f.k_tt⟩, false, ⟨X.f.x_turn, X.f.k_tg⟩, by decide, ?_⟩
    simp only [dCountL, isLst, dCount, items, dNe, res, eqOk_int, deq_int, deq_bl, dIndex, dIx, wSeq, wNext, wRet, wDrop, wAsg, wPar, wIf, wBrk, wCnt, wRaise, wIte, wAndV, wOrV, wNotV, wNeg, wAnd, wOr, wNot, wTest, wCB, wCons, wNil, wVar, wC, wBin, wTup, wLst, wLstM, wFrz, wIsN, wOrL, wDict0, wIt, wRng1, wRng2, wMeth, wMethT, wNoP, wPt, wSl, wRev, wRgs, fTupR, fLstR, fLstRM, rgM, wCall, wYes, bOf, gam0, List.map_cons, List.map_nil, List.length_cons, List.length_nil, List.replicate, List.cons_append, List.nil_append, List.append_nil, List.getElem?_cons_zero, List.getElem?_cons_succ, List.set_cons_zero, List.set_cons_succ, Nat.add_sub_cancel, Nat.sub_self, Nat.sub_zero, Nat.reduceAdd, Nat.reduceSub, Nat.zero_add, if_true, if_false, Bool.false_eq_true, Bool.not_true, Bool.not_false, true_and, and_true, Bool.and_true, Bool.true_and]
    refine ⟨⟨rfl, rfl⟩, true, ⟨X.f.x_turn, X.f.k_tv⟩, ?_⟩
    rw [if_neg (by decide)]
    refine ⟨by decide, ⟨rfl, rfl⟩, 1, .bl true, ⟨rfl, by rw [deq_bl]; rfl, fun m z' hm hz => ?_⟩, ?_⟩
    · have : m = 0 := by omega
      subst this
      cases hz
      rw [deq_bl]
      rfl
    · exact ⟨rfl, q⟩
  · refine .inl ⟨X.m, ?_⟩
    simp only [isNon, dIsi, wSeq, wNext, wRet, wDrop, wAsg, wPar, wIf, wBrk, wCnt, wRaise, wIte, wAndV, wOrV, wNotV, wNeg, wAnd, wOr, wNot, wTest, wCB, wCons, wNil, wVar, wC, wBin, wTup, wLst, wLstM, wFrz, wIsN, wOrL, wDict0, wIt, wRng1, wRng2, wMeth, wMethT, wNoP, wPt, wSl, wRev, wRgs, fTupR, fLstR, fLstRM, rgM, wCall, wYes, bOf, gam0, List.map_cons, List.map_nil, List.length_cons, List.length_nil, List.replicate, List.cons_append, List.nil_append, List.append_nil, List.getElem?_cons_zero, List.getElem?_cons_succ, List.set_cons_zero, List.set_cons_succ, Nat.add_sub_cancel, Nat.sub_self, Nat.sub_zero, Nat.reduceAdd, Nat.reduceSub, Nat.zero_add, if_true, if_false, Bool.false_eq_true, Bool.not_true, Bool.not_false, true_and, and_true, Bool.and_true, Bool.true_and]
    refine ⟨false, ⟨X.x, X.s⟩, false, ⟨X.x, X.t⟩, true, ⟨X.x, X.g⟩, by decide, ?_⟩
    simp only [dCountL, isLst, dCount, items, dNe, res, eqOk_int, deq_int, deq_bl, dIndex, dIx, wSeq, wNext, wRet, wDrop, wAsg, wPar, wIf, wBrk, wCnt, wRaise, wIte, wAndV, wOrV, wNotV, wNeg, wAnd, wOr, wNot, wTest, wCB, wCons, wNil, wVar, wC, wBin, wTup, wLst, wLstM, wFrz, wIsN, wOrL, wDict0, wIt, wRng1, wRng2, wMeth, wMethT, wNoP, wPt, wSl, wRev, wRgs, fTupR, fLstR, fLstRM, rgM, wCall, wYes, bOf, gam0, List.map_cons, List.map_nil, List.length_cons, List.length_nil, List.replicate, List.cons_append, List.nil_append, List.append_nil, List.getElem?_cons_zero, List.getElem?_cons_succ, List.set_cons_zero, List.set_cons_succ, Nat.add_sub_cancel, Nat.sub_self, Nat.sub_zero, Nat.reduceAdd, Nat.reduceSub, Nat.zero_add, if_true, if_false, Bool.false_eq_true, Bool.not_true, Bool.not_false, true_and, and_true, Bool.and_true, Bool.true_and]
    refine ⟨⟨rfl, rfl⟩, true, ⟨X.x, X.v⟩, ?_⟩
    rw [if_neg (by decide)]
    refine ⟨by decide, ⟨rfl, rfl⟩, 2, .bl true, ⟨rfl, by rw [deq_bl]; rfl, fun m z' hm hz => ?_⟩, ?_⟩
    · have : m = 0 ∨ m = 1 := by omega
      rcases this with e | e <;> subst e <;> cases hz <;> rw [deq_bl] <;> rfl
    · exact ⟨rfl, q⟩
end TC

set_option Elab.async false
set_option linter.all false
set_option maxRecDepth 100000
set_option maxHeartbeats 4000000
namespace TC
open PySem PySem.Spec PyProof.Rows L2
abbrev pR (k : List Int) : PyData := .tuple (k.map PyData.int)
theorem alike_ints : ∀ a b : List Int, PySem.W.alikeAll (a.map PyData.int) (b.map PyData.int) = true
  | [], _ => by
    rw [List.map_nil, PySem.W.alikeAll]
  | _ :: _, [] => by
    rw [List.map_nil, List.map_cons, PySem.W.alikeAll]
  | x :: a, y :: b => by
    rw [List.map_cons, List.map_cons, PySem.W.alikeAll, PySem.W.alike, alike_ints a b]
    rfl
theorem alike_rows : ∀ a b : List (List Int), PySem.W.alikeAll (a.map pR) (b.map pR) = true
  | [], _ => by
    rw [List.map_nil, PySem.W.alikeAll]
  | _ :: _, [] => by
    rw [List.map_nil, List.map_cons, PySem.W.alikeAll]
  | x :: a, y :: b => by
    rw [List.map_cons, List.map_cons, PySem.W.alikeAll, PySem.W.alike, alike_ints x y, alike_rows a b]
    rfl
theorem lt_ints : ∀ a b : List Int, a.length = b.length → a ≠ b → PyProof.Rows.lexLt itemOrd (PySem.W.keyToksAll (a.map PyData.int)) (PySem.W.keyToksAll (b.map PyData.int)) = HT.lexLt a b
  | [], [], _, n => absurd rfl n
  | [], _ :: _, e, _ => by cases e
  | _ :: _, [], e, _ => by cases e
  | x :: a, y :: b, e, n => by
    rw [List.map_cons, List.map_cons, HT.lexLt_cons]
    by_cases h : x = y
    · subst h
      rw [if_pos rfl]
      rw [PySem.W.dataLt_all_yes (by rw [PySem.W.alike]) (by simp [PyData.eqv])]
      exact lt_ints a b (by simpa using e) fun q => n (by rw [q])
    · rw [if_neg h, PySem.W.dataLt_all_no (by rw [PySem.W.alike]) (by simpa [PyData.eqv] using h), PySem.W.dataLt_int]
theorem lt_lots {r q : List (List Int)} {n : Nat} (hr : r ≠ []) (hq : q ≠ []) (l1 : (headL r).length = n) (l2 : (headL q).length = n) (h : ltL (headL r) (headL q)) : PySem.W.dataLt (lotD r).py (lotD q).py = true := by
  match r, q with
  | a :: r, b :: q =>
    have l1 : a.length = n := l1
    have l2 : b.length = n := l2
    have h : ltL a b := h
    have ne : a ≠ b := fun e => by
      subst e
      exact ltL_irr _ h
    show PySem.W.dataLt (.tuple (pys ((a :: r).map tI))) (.tuple (pys ((b :: q).map tI))) = true
    rw [PySem.W.dataLt_tuple, py_rows, py_rows, List.map_cons, List.map_cons]
    rw [PySem.W.dataLt_all_no (by rw [PySem.W.alike]; exact alike_ints a b) (by rw [PyData.eqv, eqvAll_ints]; simpa using ne), PySem.W.dataLt_tuple, lt_ints a b (l1.trans l2.symm) ne]
    exact h
theorem alike_lots (r q : List (List Int)) : PySem.W.alike (lotD r).py (lotD q).py = true := by
  show PySem.W.alike (.tuple (pys (r.map tI))) (.tuple (pys (q.map tI))) = true
  rw [PySem.W.alike, py_rows, py_rows]
  exact alike_rows r q
theorem depth_lot (r : List (List Int)) : (lotD r).py.depth ≤ 60 := by
  show PyData.depth (.tuple (pys (r.map tI))) ≤ 60
  rw [PyData.depth, py_rows]
  have := depth_rows r
  omega
def enL : Nat → List (List (List Int)) → List (D × D)
  | _, [] => []
  | k, r :: rs => (.int (k : Int), lotD r) :: enL (k + 1) rs
theorem enL_eq : ∀ (rows : List (List (List Int))) (k : Nat), ((List.range' k rows.length).map fun (i : Nat) => D.int (i : Int)).zip (rows.map lotD) = enL k rows
  | [], _ => rfl
  | r :: rs, k => by
    rw [List.length_cons, List.range'_succ, List.map_cons, List.map_cons, List.zip_cons_cons, enL_eq rs (k + 1)]
    rfl
theorem enumD_lots (rows : List (List (List Int))) : enumD (rows.map lotD) = enL 0 rows := by
  unfold enumD
  rw [List.length_map, List.range_eq_range', enL_eq]
theorem idxs_snoc : ∀ (rows : List (List (List Int))) (k : Nat) (c : List (List Int)), idxsOf k (rows ++ [c]) = idxsOf k rows ++ List.replicate c.length ((k + rows.length : Nat) : Int)
  | [], k, c => by simp [idxsOf]
  | r :: rs, k, c => by
    rw [List.cons_append, idxsOf, idxsOf, idxs_snoc rs (k + 1) c, List.append_assoc, List.length_cons]
    congr 4
    omega
section
variable {n : Nat} {g : List (List Int)} {rows : List (List (List Int))}
theorem LotsOk.one (G : Gs n g) (L : LotsOk n g rows) {r q : List (List Int)} {x : List Int} (hr : r ∈ rows) (hq : q ∈ rows) (h1 : x ∈ r) (h2 : x ∈ q) : r = q := by
  obtain ⟨a, ta, ha⟩ := L.1 r hr
  obtain ⟨b, tb, hb⟩ := L.1 q hq
  exact lot_same G ta ha hb (rel_trans G ta (ha.mem.mp h1) (rel_symm G tb (hb.mem.mp h2)))
theorem LotsOk.nd (G : Gs n g) (L : LotsOk n g rows) : rows.flatten.Nodup := by
  refine List.pairwise_flatten.mpr ⟨fun r hr => ?_, ?_⟩
  · obtain ⟨a, ta, ha⟩ := L.1 r hr
    exact ltL_nodup ha.2
  · refine List.Pairwise.imp_of_mem (fun {r q} hr hq h x hx y hy e => ?_) L.2.2.1
    subst e
    have := L.one G hr hq hx hy
    subst this
    exact ltL_irr _ h
theorem LotsOk.tn (G : Gs n g) (L : LotsOk n g rows) {t : List Int} (h : t ∈ rows.flatten) : Tn n t := by
  obtain ⟨r, hr, ht⟩ := List.mem_flatten.mp h
  obtain ⟨a, ta, ha⟩ := L.1 r hr
  exact ha.tn G ta ht
theorem LotsOk.ne (G : Gs n g) (L : LotsOk n g rows) {r : List (List Int)} (hr : r ∈ rows) : r ≠ [] := fun e => by
  obtain ⟨a, ta, ha⟩ := L.1 r hr
  have := ha.mem.mpr (rel_refl G ta)
  rw [e] at this
  cases this
end
theorem pure_law_places (K : PySem.W.Frag) (A : Adr) (ds : List D) (R : D → Prop) (Z : Addr → Prop) (hl : ds.length = 1) (h : sp_law_places A ds R Z) : w_law_places K A (gam0 5 ds) [] (Pt R Z) := by
  obtain ⟨rows, g, n, rfl, ⟨n2, n5⟩, tt, G, ⟨L1, L2, L3, L4⟩, r⟩ := h
  unfold w_law_places
  refine seqK fun k hk => ?_
  simp only [wDictM, wSeq, wNext, wRet, wDrop, wAsg, wPar, wIf, wBrk, wCnt, wRaise, wIte, wAndV, wOrV, wNotV, wNeg, wAnd, wOr, wNot, wTest, wCB, wCons, wNil, wVar, wC, wBin, wTup, wLst, wLstM, wFrz, wIsN, wOrL, wDict0, wIt, wRng1, wRng2, wMeth, wMethT, wNoP, wPt, wSl, wRev, wRgs, fTupR, fLstR, fLstRM, rgM, wCall, wYes, bOf, gam0, List.map_cons, List.map_nil, List.length_cons, List.length_nil, List.replicate, List.cons_append, List.nil_append, List.append_nil, List.getElem?_cons_zero, List.getElem?_cons_succ, List.set_cons_zero, List.set_cons_succ, Nat.add_sub_cancel, Nat.sub_self, Nat.sub_zero, Nat.reduceAdd, Nat.reduceSub, Nat.zero_add, if_true, if_false, Bool.false_eq_true, Bool.not_true, Bool.not_false, true_and, and_true, Bool.and_true, Bool.true_and]
  refine hk _ _ ?_
  clear hk k
  refine seqK fun k hk => ?_
  simp only [wForP, wEnumS, wSeq, wNext, wRet, wDrop, wAsg, wPar, wIf, wBrk, wCnt, wRaise, wIte, wAndV, wOrV, wNotV, wNeg, wAnd, wOr, wNot, wTest, wCB, wCons, wNil, wVar, wC, wBin, wTup, wLst, wLstM, wFrz, wIsN, wOrL, wDict0, wIt, wRng1, wRng2, wMeth, wMethT, wNoP, wPt, wSl, wRev, wRgs, fTupR, fLstR, fLstRM, rgM, wCall, wYes, bOf, gam0, List.map_cons, List.map_nil, List.length_cons, List.length_nil, List.replicate, List.cons_append, List.nil_append, List.append_nil, List.getElem?_cons_zero, List.getElem?_cons_succ, List.set_cons_zero, List.set_cons_succ, Nat.add_sub_cancel, Nat.sub_self, Nat.sub_zero, Nat.reduceAdd, Nat.reduceSub, Nat.zero_add, if_true, if_false, Bool.false_eq_true, Bool.not_true, Bool.not_false, true_and, and_true, Bool.and_true, Bool.true_and]
  rw [enumD_lots]
  have Gg : Gs n g := ⟨n2, n5, tt, G⟩
  have L : LotsOk n g rows := ⟨L1, L2, L3, L4⟩
  have nd := L.nd Gg
  have fl : rows.flatten.length ≤ 152 := tn_len nd fun t ht => L.tn Gg ht
  refine wForPL_go (fun rest Γ μ => ∃ (done rest' : List (List (List Int))) (d2 d3 d4 : Option D), rows = done ++ rest' ∧ rest = enL done.length rest' ∧
    Γ = [some (D.lst (rows.map lotD)), some (.mt 0), d2, d3, d4] ∧ μ = [.dt done.flatten ((idxsOf 0 done).map D.int)]) ?_ ?_ _ _ _ ⟨[], rows, _, _, _, rfl, rfl, rfl, rfl⟩
  · rintro Γ μ ⟨done, rest', d2, d3, d4, e1, e2, rfl, rfl⟩
    have e3 : rest' = [] := by
      cases rest' with
      | nil => rfl
      | cons q r => cases e2
    subst e3
    rw [List.append_nil] at e1
    subst e1
    refine hk _ _ ?_
    simp only [wFrzD, wSeq, wNext, wRet, wDrop, wAsg, wPar, wIf, wBrk, wCnt, wRaise, wIte, wAndV, wOrV, wNotV, wNeg, wAnd, wOr, wNot, wTest, wCB, wCons, wNil, wVar, wC, wBin, wTup, wLst, wLstM, wFrz, wIsN, wOrL, wDict0, wIt, wRng1, wRng2, wMeth, wMethT, wNoP, wPt, wSl, wRev, wRgs, fTupR, fLstR, fLstRM, rgM, wCall, wYes, bOf, gam0, List.map_cons, List.map_nil, List.length_cons, List.length_nil, List.replicate, List.cons_append, List.nil_append, List.append_nil, List.getElem?_cons_zero, List.getElem?_cons_succ, List.set_cons_zero, List.set_cons_succ, Nat.add_sub_cancel, Nat.sub_self, Nat.sub_zero, Nat.reduceAdd, Nat.reduceSub, Nat.zero_add, if_true, if_false, Bool.false_eq_true, Bool.not_true, Bool.not_false, true_and, and_true, Bool.and_true, Bool.true_and]
    exact ⟨pures_ints _, r⟩
  · rintro d r' Γ μ ⟨done, rest', d2, d3, d4, e1, e2, rfl, rfl⟩ nx hnx
    cases rest' with
    | nil => cases e2
    | cons c rest' =>
      rw [enL] at e2
      obtain ⟨rfl, rfl⟩ := List.cons.inj e2
      refine seqK fun k1 hk1 => ?_
      have cm : c ∈ rows := by rw [e1]; simp
      obtain ⟨a0, ta0, ha0⟩ := L1 c cm
      have ctn : ∀ u ∈ c, Tn n u := fun u hu => ha0.tn Gg ta0 hu
      have cn := ltL_nodup ha0.2
      have cl : c.length ≤ 152 := tn_len cn ctn
      simp only [lotD, dIsi, tyN, res, dGt, fI, fT, dLtP, dNe, dTupOf, dSortUT, items, wSeq, wNext, wRet, wDrop, wAsg, wPar, wIf, wBrk, wCnt, wRaise, wIte, wAndV, wOrV, wNotV, wNeg, wAnd, wOr, wNot, wTest, wCB, wCons, wNil, wVar, wC, wBin, wTup, wLst, wLstM, wFrz, wIsN, wOrL, wDict0, wIt, wRng1, wRng2, wMeth, wMethT, wNoP, wPt, wSl, wRev, wRgs, fTupR, fLstR, fLstRM, rgM, wCall, wYes, bOf, gam0, List.map_cons, List.map_nil, List.length_cons, List.length_nil, List.replicate, List.cons_append, List.nil_append, List.append_nil, List.getElem?_cons_zero, List.getElem?_cons_succ, List.set_cons_zero, List.set_cons_succ, Nat.add_sub_cancel, Nat.sub_self, Nat.sub_zero, Nat.reduceAdd, Nat.reduceSub, Nat.zero_add, if_true, if_false, Bool.false_eq_true, Bool.not_true, Bool.not_false, true_and, and_true, Bool.and_true, Bool.true_and]
      refine ⟨by decide, ?_⟩
      rw [if_neg (by decide)]
      refine ⟨c, rfl, by omega, fun u hu e => ?_, fun ks' hp hs => ?_⟩
      · have := (ctn u hu).2
        rw [e] at this
        simp at this
        omega
      have ek : ks' = c := ltL_uniq (ltL_sorted (hp.nodup_iff.mpr cn) hs) ha0.2 fun t => hp.mem_iff
      subst ek
      refine ⟨⟨eqOk_rowsT _, eqOk_rowsT _⟩, ?_⟩
      have hd : deq (.tup (ks'.map tI)) (.tup (keysD ks')) = true := (deq_rowsT ks' ks').trans (by simp)
      rw [hd]
      rw [if_neg (by decide)]
      have go : k1 [some (D.lst (rows.map lotD)), some (.mt 0), some (D.int (done.length : Nat)), some (.tup (ks'.map tI)), d4] [.dt done.flatten ((idxsOf 0 done).map D.int)] := by
        refine hk1 _ _ ?_
        clear hk1 k1
        refine seqK fun k1 hk1 => ?_
        simp only [wFor, itemsI, wSeq, wNext, wRet, wDrop, wAsg, wPar, wIf, wBrk, wCnt, wRaise, wIte, wAndV, wOrV, wNotV, wNeg, wAnd, wOr, wNot, wTest, wCB, wCons, wNil, wVar, wC, wBin, wTup, wLst, wLstM, wFrz, wIsN, wOrL, wDict0, wIt, wRng1, wRng2, wMeth, wMethT, wNoP, wPt, wSl, wRev, wRgs, fTupR, fLstR, fLstRM, rgM, wCall, wYes, bOf, gam0, List.map_cons, List.map_nil, List.length_cons, List.length_nil, List.replicate, List.cons_append, List.nil_append, List.append_nil, List.getElem?_cons_zero, List.getElem?_cons_succ, List.set_cons_zero, List.set_cons_succ, Nat.add_sub_cancel, Nat.sub_self, Nat.sub_zero, Nat.reduceAdd, Nat.reduceSub, Nat.zero_add, if_true, if_false, Bool.false_eq_true, Bool.not_true, Bool.not_false, true_and, and_true, Bool.and_true, Bool.true_and]
        refine wForL_go (fun r2 Γ μ => ∃ (done2 rest2 : List (List Int)) (d4 : Option D), ks' = done2 ++ rest2 ∧ r2 = rest2.map tI ∧
          Γ = [some (D.lst (rows.map lotD)), some (.mt 0), some (D.int (done.length : Nat)), some (.tup (ks'.map tI)), d4] ∧ μ = [.dt (done.flatten ++ done2) ((idxsOf 0 done ++ List.replicate done2.length (done.length : Int)).map D.int)]) ?_ ?_ _ _ _
          ⟨[], ks', d4, rfl, rfl, rfl, by simp⟩
        · rintro Γ μ ⟨done2, rest2, d4, f1, f2, rfl, rfl⟩
          have e3 : rest2 = [] := by simpa using f2
          subst e3
          rw [List.append_nil] at f1
          subst f1
          refine hk1 _ _ ?_
          simp only [wSeq, wNext, wRet, wDrop, wAsg, wPar, wIf, wBrk, wCnt, wRaise, wIte, wAndV, wOrV, wNotV, wNeg, wAnd, wOr, wNot, wTest, wCB, wCons, wNil, wVar, wC, wBin, wTup, wLst, wLstM, wFrz, wIsN, wOrL, wDict0, wIt, wRng1, wRng2, wMeth, wMethT, wNoP, wPt, wSl, wRev, wRgs, fTupR, fLstR, fLstRM, rgM, wCall, wYes, bOf, gam0, List.map_cons, List.map_nil, List.length_cons, List.length_nil, List.replicate, List.cons_append, List.nil_append, List.append_nil, List.getElem?_cons_zero, List.getElem?_cons_succ, List.set_cons_zero, List.set_cons_succ, Nat.add_sub_cancel, Nat.sub_self, Nat.sub_zero, Nat.reduceAdd, Nat.reduceSub, Nat.zero_add, if_true, if_false, Bool.false_eq_true, Bool.not_true, Bool.not_false, true_and, and_true, Bool.and_true, Bool.true_and]
          refine hnx _ _ ⟨done ++ [ks'], rest', _, _, _, by rw [e1]; simp, by rw [List.length_append]; rfl, rfl, ?_⟩
          rw [idxs_snoc, Nat.zero_add, List.flatten_append]
          simp
        · rintro d r3 Γ μ ⟨done2, rest2, d4, f1, f2, rfl, rfl⟩ nx2 hnx2
          cases rest2 with
          | nil => cases f2
          | cons u rest2 =>
            rw [List.map_cons] at f2
            obtain ⟨rfl, rfl⟩ := List.cons.inj f2
            have fr : (done.flatten ++ done2).contains u = false := by
              have nd2 := nd
              rw [e1, List.flatten_append, List.flatten_cons, f1] at nd2
              have nd3 : ((done.flatten ++ done2) ++ (u :: (rest2 ++ rest'.flatten))).Nodup := by
                simpa [List.append_assoc] using nd2
              have := (List.nodup_append.mp nd3).2.2
              simp only [List.contains_eq_mem, decide_eq_false_iff_not]
              exact fun hm => this u hm u (List.mem_cons_self ..) rfl
            have small : (done.flatten ++ done2).length < big := by
              have : (done.flatten ++ done2).length ≤ rows.flatten.length := by
                rw [e1, List.flatten_append, List.flatten_cons, f1]
                simp only [List.length_append, List.length_cons]
                omega
              unfold big
              omega
            refine seqK fun k2 hk2 => ?_
            simp only [dDIn, dtOf, keyD_tI, fr, wSeq, wNext, wRet, wDrop, wAsg, wPar, wIf, wBrk, wCnt, wRaise, wIte, wAndV, wOrV, wNotV, wNeg, wAnd, wOr, wNot, wTest, wCB, wCons, wNil, wVar, wC, wBin, wTup, wLst, wLstM, wFrz, wIsN, wOrL, wDict0, wIt, wRng1, wRng2, wMeth, wMethT, wNoP, wPt, wSl, wRev, wRgs, fTupR, fLstR, fLstRM, rgM, wCall, wYes, bOf, gam0, List.map_cons, List.map_nil, List.length_cons, List.length_nil, List.replicate, List.cons_append, List.nil_append, List.append_nil, List.getElem?_cons_zero, List.getElem?_cons_succ, List.set_cons_zero, List.set_cons_succ, Nat.add_sub_cancel, Nat.sub_self, Nat.sub_zero, Nat.reduceAdd, Nat.reduceSub, Nat.zero_add, if_true, if_false, Bool.false_eq_true, Bool.not_true, Bool.not_false, true_and, and_true, Bool.and_true, Bool.true_and]
            refine hk2 _ _ ?_
            clear hk2 k2
            simp only [wSetK, keyD_tI, wSeq, wNext, wRet, wDrop, wAsg, wPar, wIf, wBrk, wCnt, wRaise, wIte, wAndV, wOrV, wNotV, wNeg, wAnd, wOr, wNot, wTest, wCB, wCons, wNil, wVar, wC, wBin, wTup, wLst, wLstM, wFrz, wIsN, wOrL, wDict0, wIt, wRng1, wRng2, wMeth, wMethT, wNoP, wPt, wSl, wRev, wRgs, fTupR, fLstR, fLstRM, rgM, wCall, wYes, bOf, gam0, List.map_cons, List.map_nil, List.length_cons, List.length_nil, List.replicate, List.cons_append, List.nil_append, List.append_nil, List.getElem?_cons_zero, List.getElem?_cons_succ, List.set_cons_zero, List.set_cons_succ, Nat.add_sub_cancel, Nat.sub_self, Nat.sub_zero, Nat.reduceAdd, Nat.reduceSub, Nat.zero_add, if_true, if_false, Bool.false_eq_true, Bool.not_true, Bool.not_false, true_and, and_true, Bool.and_true, Bool.true_and]
            refine ⟨small, hnx2 _ _ ⟨done2 ++ [u], rest2, _, by rw [f1]; simp, rfl, rfl, ?_⟩⟩
            unfold putD
            rw [fr, if_neg (by decide), List.length_append, List.append_assoc]
            simp [List.replicate_succ']
      by_cases z : (0 : Int) < (done.length : Nat)
      · rw [if_pos (by simpa using z)]
        have zl : 0 < done.length := by omega
        have ep : atI (rows.map lotD) ((done.length : Int) - 1) = some (lotD (done.getD (done.length - 1) [])) := by
          refine atI_in (by omega) ?_
          have : ((done.length : Int) - 1).toNat = done.length - 1 := by omega
          rw [this, List.getElem?_map, e1, List.getElem?_append_left (by omega)]
          rw [List.getD_eq_getElem?_getD, List.getElem?_eq_getElem (by omega)]
          rfl
        simp only [dSub, fI, dIx, items, ep, wSeq, wNext, wRet, wDrop, wAsg, wPar, wIf, wBrk, wCnt, wRaise, wIte, wAndV, wOrV, wNotV, wNeg, wAnd, wOr, wNot, wTest, wCB, wCons, wNil, wVar, wC, wBin, wTup, wLst, wLstM, wFrz, wIsN, wOrL, wDict0, wIt, wRng1, wRng2, wMeth, wMethT, wNoP, wPt, wSl, wRev, wRgs, fTupR, fLstR, fLstRM, rgM, wCall, wYes, bOf, gam0, List.map_cons, List.map_nil, List.length_cons, List.length_nil, List.replicate, List.cons_append, List.nil_append, List.append_nil, List.getElem?_cons_zero, List.getElem?_cons_succ, List.set_cons_zero, List.set_cons_succ, Nat.add_sub_cancel, Nat.sub_self, Nat.sub_zero, Nat.reduceAdd, Nat.reduceSub, Nat.zero_add, if_true, if_false, Bool.false_eq_true, Bool.not_true, Bool.not_false, true_and, and_true, Bool.and_true, Bool.true_and]
        obtain ⟨pv, hpv⟩ : ∃ pv, pv = done.getD (done.length - 1) [] := ⟨_, rfl⟩
        have pm : pv ∈ done := by
          rw [hpv, List.getD_eq_getElem?_getD, List.getElem?_eq_getElem (by omega)]
          exact List.getElem_mem _
        rw [← hpv]
        have pr : pv ∈ rows := by rw [e1]; exact List.mem_append_left _ pm
        have hlt : ltL (headL pv) (headL ks') := by
          have q := L3
          rw [e1] at q
          exact (List.pairwise_append.mp q).2.2 pv pm ks' (List.mem_cons_self ..)
        have hln : ∀ {r : List (List Int)}, r ∈ rows → (headL r).length = n := fun {r} hr => by
          have ne := L.ne Gg hr
          match r, ne with
          | u :: r, _ => exact (L.tn Gg (List.mem_flatten.mpr ⟨_, hr, List.mem_cons_self ..⟩)).2
        refine ⟨⟨eqOk_rowsT _, eqOk_rowsT _⟩, alike_lots pv ks', fun e => (by cases e), depth_lot pv, ?_⟩
        have hdl : PySem.W.dataLt (lotD pv).py (D.tup (ks'.map tI)).py = true := lt_lots (n := n) (L.ne Gg pr) (L.ne Gg cm) (hln pr) (hln cm) hlt
        rw [hdl, if_neg (by decide)]
        exact go
      · rw [if_neg (by simpa using z)]
        exact go
end TC

set_option Elab.async false
set_option linter.all false
set_option maxRecDepth 100000
set_option maxHeartbeats 4000000
namespace TC
open PySem PySem.Spec PyProof.Rows L2
/-- no group of any size -/
def notG (x : D) : Prop := okD x = true ∧ (∀ xs, x = .tup xs → xs.length ≤ 1000 ∧ ∀ d ∈ xs, okT d = true) ∧ ∀ n, 2 ≤ n → n ≤ 5 → ¬ IsGrp n x
theorem notG.grp {x : D} {ok : Nat → List (List Int) → Prop} {no : Prop} (h : notG x) (q : no) : grpIn x ok no :=
  ⟨h.1, h.2.1, fun _ => q, fun n g n2 n5 e tt G => absurd ⟨g, e, tt, G⟩ (h.2.2 n n2 n5)⟩
section
variable {n : Nat} {g us : List (List Int)}
theorem rows_okD (us : List (List Int)) : okD (.tup (us.map tI)) = true := by
  unfold okD
  rw [show (D.tup (us.map tI)).pure = true from pures_rows us]
  rfl
theorem notG_rows (tt : ∀ t ∈ us, Tn n t) (hl : us.length ≤ 1000) (h : us.Pairwise ltL → rgL n ∈ us → False) (n2 : 2 ≤ n) (n5 : n ≤ 5) : notG (.tup (us.map tI)) := by
  refine ⟨rows_okD us, fun xs e => ?_, fun m m2 m5 G => ?_⟩
  · cases e
    refine ⟨by rw [List.length_map]; exact hl, fun d hd => ?_⟩
    obtain ⟨t, ht, rfl⟩ := List.mem_map.mp hd
    exact thing_okT (thing_tI (tt t ht).1)
  · have H := grp_has G
    have e := (tt _ H.e).2
    rw [rgL_len] at e
    subst e
    exact h H.srt H.e
end

/-- no group of the size -/
def notAt (n : Nat) (x : D) : Prop := okD x = true ∧ (∀ xs, x = .tup xs → xs.length ≤ 1000 ∧ ∀ d ∈ xs, okT d = true) ∧ ¬ IsGrp n x
theorem notG.at {x : D} {n : Nat} (h : notG x) (n2 : 2 ≤ n) (n5 : n ≤ 5) : notAt n x := ⟨h.1, h.2.1, h.2.2 n n2 n5⟩
theorem notAt.grp {x : D} {n : Nat} {ok : List (List Int) → Prop} {no : Prop} (h : notAt n x) (q : no) : grpAt x n ok no := ⟨h.1, h.2.1, fun _ => q, fun g e tt G => absurd ⟨g, e, tt, G⟩ h.2.2⟩
section
variable {A : Adr} {R : D → Prop} {Z : Addr → Prop} {x y : D} {a : List Int} {n : Nat}
theorem pures_3 {x y z : D} (h : x.pure = true) (h2 : y.pure = true) (h3 : z.pure = true) : pures [x, y, z] = true := pures_of fun d hd => by
  simp only [List.mem_cons, List.not_mem_nil, or_false] at hd
  rcases hd with rfl | rfl | rfl <;> assumption
theorem t5_turn (ox : okT x = true) (sx : sizeOf x = 0) (py : y.pure = true) (r : R (.str "turn")) : pures [.str "lot", x, y] = true ∧ s5_law_tried A [.str "lot", x, y] R Z := by
  have px := okT_pure ox
  refine ⟨pures_3 rfl px py, _, x, y, rfl, _, x, y, rfl, ⟨px, py⟩, .inl ⟨rfl, x, y, rfl, ox, fun _ => .inr (.inl ⟨rfl, r⟩), fun a n e ta n2 n5 => ?_⟩⟩
  rw [e, sizeOf_ok ta.1, ta.2] at sx
  omega
theorem t5_group (ta : Tn n a) (h : notAt n y) (r : R (.str "group")) : pures [.str "lot", tI a, y] = true ∧ s5_law_tried A [.str "lot", tI a, y] R Z := by
  have px := pure_tI a
  have py := okD_pure h.1
  refine ⟨pures_3 rfl px py, _, _, y, rfl, _, _, y, rfl, ⟨px, py⟩, .inl ⟨rfl, tI a, y, rfl, thing_okT (thing_tI ta.1), fun e => ?_, fun b m e tb m2 m5 => ?_⟩⟩
  · rw [sizeOf_ok ta.1, ta.2] at e
    have := ta.bd
    omega
  · have := tI_inj e
    subst this
    have : m = n := tb.2.symm.trans ta.2
    subst this
    exact h.grp (.inr (.inr ⟨rfl, r⟩))
theorem t5_size (px : x.pure = true) (oy : okT y = true) (sy : isSize y = false) (r : R (.str "size")) : pures [.str "lots", x, y] = true ∧ s5_law_tried A [.str "lots", x, y] R Z := by
  have py := okT_pure oy
  refine ⟨pures_3 rfl px py, _, x, y, rfl, _, x, y, rfl, ⟨px, py⟩, .inr ⟨rfl, x, y, rfl, oy, fun _ => .inl ⟨rfl, r⟩, fun m e m2 m5 => ?_⟩⟩
  subst e
  exact (isSize_no sy ⟨by omega, by omega⟩).elim
theorem t5_lots (h : notAt n x) (n2 : 2 ≤ n) (n5 : n ≤ 5) (r : R (.str "group")) : pures [.str "lots", x, .int n] = true ∧ s5_law_tried A [.str "lots", x, .int n] R Z := by
  have px := okD_pure h.1
  refine ⟨pures_3 rfl px rfl, _, x, _, rfl, _, x, _, rfl, ⟨px, rfl⟩, .inr ⟨rfl, x, _, rfl, rfl, fun e => (isSize_no e ⟨by omega, by omega⟩).elim, fun m e m2 m5 => ?_⟩⟩
  have : n = m := by
    have := D.int.inj e
    omega
  subst this
  exact h.grp (.inr (.inr ⟨rfl, r⟩))
end
theorem pick6 {A : Adr} {L : List D} {Q : D → Prop} {Z : Addr → Prop} (h1 : L ≠ []) (h2 : L.length ≤ 1000) (hp : ∀ d ∈ L, d.pure = true) (q : ∀ d ∈ L, Q d) : pures [.st, .lst L] = true ∧ s6_law_pick A [.st, .lst L] Q Z := by
  have hp : pures L = true := pures_of hp
  exact ⟨by
    show (true && (pures L && true)) = true
    rw [hp]
    rfl, _, L, rfl, rfl, h1, h2, hp, q⟩
theorem pick6B {A : Adr} {L : List D} {Q : D → Prop} {Z : Addr → Prop} (c : D → Bool) (h1 : L ≠ []) (h2 : L.length ≤ 1000) (hL : L.all (fun d => d.pure && c d) = true) (q : ∀ d, c d = true → Q d) : pures [.st, .lst L] = true ∧ s6_law_pick A [.st, .lst L] Q Z := by
  have hL := List.all_eq_true.mp hL
  refine pick6 h1 h2 (fun d hd => ?_) fun d hd => q d ?_
  all_goals
    have := hL d hd
    rw [Bool.and_eq_true] at this
  · exact this.1
  · exact this.2
theorem cut_drop (ts : List (List Int)) (k : Nat) (h : k ≤ ts.length) : cutD (ts.map tI) (some (k : Int)) none = (ts.drop k).map tI := by
  unfold cutD
  rw [HT.sIx_nat, HT.sIx_none, List.length_map]
  have e : min k ts.length = k := by omega
  rw [e, ← List.map_drop]
  refine List.take_of_length_le ?_
  rw [List.length_map, List.length_drop]
  omega
def cOdd (d : D) : Bool := okT d && decide (sizeOf d = 0)
def cNone (d : D) : Bool := okT d && !isSize d
theorem last_row {g : List (List Int)} (h : g ≠ []) : ∃ t ∈ g, atI (g.map tI) (-1) = some (tI t) := by
  have hl := List.length_pos_iff.mpr h
  refine ⟨g[g.length - 1]'(by omega), List.getElem_mem _, ?_⟩
  have e : ixN (g.map tI).length (-1) = some (g.length - 1) := by
    unfold ixN
    rw [List.length_map, if_neg (by decide), if_pos (by omega)]
    congr 1
    omega
  unfold atI
  rw [e]
  show (g.map tI)[g.length - 1]? = _
  rw [List.getElem?_map, List.getElem?_eq_getElem (by omega)]
  rfl
theorem pure_law_refused (K : PySem.W.Frag) (A : Adr) (ds : List D) (R : D → Prop) (Z : Addr → Prop) (hl : ds.length = 3) (h : s5_law_refused A ds R Z) : w_law_refused K A (gam0 8 ds) [] (Pt R Z) := by
  obtain ⟨g, n, rfl, ⟨n2, n5⟩, tt, G, r⟩ := h
  have gl : g.length ≤ 152 := tn_len (ltL_nodup G.1) tt
  have H : GrpHas n g := grp_has ⟨g, rfl, tt, G⟩
  obtain ⟨q, hq⟩ : ∃ q, g = rgL n :: q := by
    cases g with
    | nil => exact absurd H.e (by simp)
    | cons t q => exact ⟨q, by rw [← H.first]; rfl⟩
  have nd := ltL_nodup G.1
  have qn : rgL n ∉ q := by
    rw [hq] at nd
    exact (List.nodup_cons.mp nd).1
  have tq : ∀ t ∈ q, Tn n t := fun t ht => tt t (by rw [hq]; exact List.mem_cons_of_mem _ ht)
  have te := Tn.e n2 n5
  have c1 : cutD (g.map tI) (some 1) none = q.map tI := by
    have := cut_drop g 1 (by rw [hq]; simp)
    rw [show ((1 : Nat) : Int) = 1 from rfl] at this
    rw [this, hq]
    rfl
  have c2 : cutD (g.map tI) none (some 1) = [tI (rgL n)] := by
    have e1 : (1 : Int) = ((1 : Nat) : Int) := rfl
    unfold cutD
    rw [e1, HT.sIx_nat, HT.sIx_none, List.drop_zero, List.length_map, Nat.sub_zero, hq]
    simp
  have a0 : atI (g.map tI) 0 = some (tI (rgL n)) := by
    have h := H.e
    refine atI_in (by omega) ?_
    rw [hq]
    rfl
  unfold w_law_refused
  refine seqK fun k hk => ?_
  simp only [wSeq, wNext, wRet, wDrop, wAsg, wPar, wIf, wBrk, wCnt, wRaise, wIte, wAndV, wOrV, wNotV, wNeg, wAnd, wOr, wNot, wTest, wCB, wCons, wNil, wVar, wC, wBin, wTup, wLst, wLstM, wFrz, wIsN, wOrL, wDict0, wIt, wRng1, wRng2, wMeth, wMethT, wNoP, wPt, wSl, wRev, wRgs, fTupR, fLstR, fLstRM, rgM, wCall, wYes, bOf, gam0, List.map_cons, List.map_nil, List.length_cons, List.length_nil, List.replicate, List.cons_append, List.nil_append, List.append_nil, List.getElem?_cons_zero, List.getElem?_cons_succ, List.set_cons_zero, List.set_cons_succ, Nat.add_sub_cancel, Nat.sub_self, Nat.sub_zero, Nat.reduceAdd, Nat.reduceSub, Nat.zero_add, if_true, if_false, Bool.false_eq_true, Bool.not_true, Bool.not_false, true_and, and_true, Bool.and_true, Bool.true_and]
  refine ⟨by decide, by decide, by decide, by decide, by decide, by decide, pick6B cOdd (by simp) (by simp) (by decide +kernel) fun odd hodd => hk _ _ ?_⟩
  clear hk k
  unfold cOdd at hodd
  rw [Bool.and_eq_true, decide_eq_true_eq] at hodd
  refine seqK fun k hk => ?_
  simp only [wSeq, wNext, wRet, wDrop, wAsg, wPar, wIf, wBrk, wCnt, wRaise, wIte, wAndV, wOrV, wNotV, wNeg, wAnd, wOr, wNot, wTest, wCB, wCons, wNil, wVar, wC, wBin, wTup, wLst, wLstM, wFrz, wIsN, wOrL, wDict0, wIt, wRng1, wRng2, wMeth, wMethT, wNoP, wPt, wSl, wRev, wRgs, fTupR, fLstR, fLstRM, rgM, wCall, wYes, bOf, gam0, List.map_cons, List.map_nil, List.length_cons, List.length_nil, List.replicate, List.cons_append, List.nil_append, List.append_nil, List.getElem?_cons_zero, List.getElem?_cons_succ, List.set_cons_zero, List.set_cons_succ, Nat.add_sub_cancel, Nat.sub_self, Nat.sub_zero, Nat.reduceAdd, Nat.reduceSub, Nat.zero_add, if_true, if_false, Bool.false_eq_true, Bool.not_true, Bool.not_false, true_and, and_true, Bool.and_true, Bool.true_and]
  refine ⟨by decide, by decide, pick6B cNone (by simp) (by simp) (by decide +kernel) fun none_ hnone => hk _ _ ?_⟩
  clear hk k
  unfold cNone at hnone
  rw [Bool.and_eq_true] at hnone
  refine seqK fun k hk => ?_
  simp only [dLstOf, dAdd, dIx, items, c1, c2, a0, List.length_map, wSeq, wNext, wRet, wDrop, wAsg, wPar, wIf, wBrk, wCnt, wRaise, wIte, wAndV, wOrV, wNotV, wNeg, wAnd, wOr, wNot, wTest, wCB, wCons, wNil, wVar, wC, wBin, wTup, wLst, wLstM, wFrz, wIsN, wOrL, wDict0, wIt, wRng1, wRng2, wMeth, wMethT, wNoP, wPt, wSl, wRev, wRgs, fTupR, fLstR, fLstRM, rgM, wCall, wYes, bOf, gam0, List.map_cons, List.map_nil, List.length_cons, List.length_nil, List.replicate, List.cons_append, List.nil_append, List.append_nil, List.getElem?_cons_zero, List.getElem?_cons_succ, List.set_cons_zero, List.set_cons_succ, Nat.add_sub_cancel, Nat.sub_self, Nat.sub_zero, Nat.reduceAdd, Nat.reduceSub, Nat.zero_add, if_true, if_false, Bool.false_eq_true, Bool.not_true, Bool.not_false, true_and, and_true, Bool.and_true, Bool.true_and]
  have er : (g.map tI).reverse ++ g.map tI = (g.reverse ++ g).map tI := by
    rw [List.map_append, List.map_reverse]
  have ea : g.map tI ++ [tI (rgL n)] = (g ++ [rgL n]).map tI := by
    rw [List.map_append]
    rfl
  rw [er, ea]
  have some_ : ∀ d ∈ [D.lst (g.map tI), D.tup (q.map tI), D.tup ((g.reverse ++ g).map tI), D.tup [], D.non, D.int 5, tI (rgL n), D.tup ((g ++ [rgL n]).map tI)], d.pure = true ∧ notG d := by
    have nil_ : ∀ m, ¬ IsGrp m (.tup []) := fun m h => by
      have := (grp_has (ts := []) h).e
      cases this
    have no_ : ∀ {d : D} (m : Nat), (∀ ts : List (List Int), d ≠ .tup (ts.map tI)) → ¬ IsGrp m d := fun m h => fun ⟨ts, e, _⟩ => h ts e
    intro d hd
    simp only [List.mem_cons, List.not_mem_nil, or_false] at hd
    rcases hd with rfl | rfl | rfl | rfl | rfl | rfl | rfl | rfl
    · refine ⟨pures_rows g, ?_, fun xs e => (by cases e), fun m _ _ => no_ m fun ts e => (by cases e)⟩
      unfold okD
      rw [show (D.lst (g.map tI)).pure = true from pures_rows g]
      rfl
    · exact ⟨pures_rows q, notG_rows tq (by rw [hq] at gl; simp at gl; omega) (fun _ h => qn h) n2 n5⟩
    · refine ⟨pures_rows _, notG_rows (n := n) (fun t ht => ?_) (by simp; omega) (fun h _ => ?_) n2 n5⟩
      · rcases List.mem_append.mp ht with ht | ht
        · exact tt t (List.mem_reverse.mp ht)
        · exact tt t ht
      · have hm := List.mem_reverse.mpr H.e
        have := (List.nodup_append.mp (ltL_nodup h)).2.2 (rgL n) hm (rgL n) H.e
        exact this rfl
    · exact ⟨rfl, rfl, fun xs e => by cases e; exact ⟨by simp, fun d h => absurd h (by simp)⟩, fun m _ _ => nil_ m⟩
    · exact ⟨rfl, rfl, fun xs e => (by cases e), fun m _ _ => no_ m fun ts e => (by cases e)⟩
    · exact ⟨rfl, rfl, fun xs e => (by cases e), fun m _ _ => no_ m fun ts e => (by cases e)⟩
    · refine ⟨pure_tI _, (by unfold okD; rw [pure_tI]; rfl), fun xs e => ?_, fun m _ _ => ?_⟩
      · cases e
        refine ⟨by rw [List.length_map, rgL_len]; omega, fun d hd => ?_⟩
        obtain ⟨i, _, rfl⟩ := List.mem_map.mp hd
        rfl
      · rintro ⟨ts, e, _, G'⟩
        have e := D.tup.inj e
        cases ts with
        | nil =>
          have := congrArg List.length e
          rw [List.length_map, rgL_len] at this
          simp at this
          omega
        | cons t ts =>
          have h0 := congrArg List.head? e
          have : (rgL n).map D.int = D.int 0 :: ((rgL n).map D.int).tail := by
            have : n = 2 ∨ n = 3 ∨ n = 4 ∨ n = 5 := by omega
            rcases this with h | h | h | h <;> rw [h] <;> rfl
          rw [this] at h0
          cases h0
    · refine ⟨pures_rows _, notG_rows (n := n) (fun t ht => ?_) (by simp; omega) (fun h _ => ?_) n2 n5⟩
      · rcases List.mem_append.mp ht with ht | ht
        · exact tt t ht
        · rw [List.mem_singleton.mp ht]
          exact te
      · have := (List.nodup_append.mp (ltL_nodup h)).2.2 (rgL n) H.e (rgL n) (List.mem_singleton_self _)
        exact this rfl
  refine ⟨by rw [List.length_reverse, List.length_map]; unfold big; omega, by decide, by unfold big; omega, by decide, pick6 (by simp) (by simp) (fun d hd => (some_ d hd).1) fun sg hsg => hk _ _ ?_⟩
  clear hk k
  obtain ⟨psg, nsg⟩ := some_ sg hsg
  have nsg := nsg.at n2 n5
  clear some_ hsg er ea c1 c2
  refine seqK fun k hk => ?_
  simp only [dAdd, dMod, dSub, fI, wSeq, wNext, wRet, wDrop, wAsg, wPar, wIf, wBrk, wCnt, wRaise, wIte, wAndV, wOrV, wNotV, wNeg, wAnd, wOr, wNot, wTest, wCB, wCons, wNil, wVar, wC, wBin, wTup, wLst, wLstM, wFrz, wIsN, wOrL, wDict0, wIt, wRng1, wRng2, wMeth, wMethT, wNoP, wPt, wSl, wRev, wRgs, fTupR, fLstR, fLstRM, rgM, wCall, wYes, bOf, gam0, List.map_cons, List.map_nil, List.length_cons, List.length_nil, List.replicate, List.cons_append, List.nil_append, List.append_nil, List.getElem?_cons_zero, List.getElem?_cons_succ, List.set_cons_zero, List.set_cons_succ, Nat.add_sub_cancel, Nat.sub_self, Nat.sub_zero, Nat.reduceAdd, Nat.reduceSub, Nat.zero_add, if_true, if_false, Bool.false_eq_true, Bool.not_true, Bool.not_false, true_and, and_true, Bool.and_true, Bool.true_and]
  refine ⟨rfl, draw_it (by decide) (by decide) fun r0 hr0 => ⟨by decide, hk _ _ ?_⟩⟩
  clear hk k
  obtain ⟨m, hm, m2, m5, mn⟩ : ∃ m : Nat, (2 + ((n : Int) - 1 + (r0 : Int)).fmod 4) = (m : Int) ∧ 2 ≤ m ∧ m ≤ 5 ∧ m ≠ n := by
    rw [Int.fmod_eq_emod_of_nonneg _ (by decide)]
    exact ⟨(2 + ((n : Int) - 1 + (r0 : Int)) % 4).toNat, by omega, by omega, by omega, by omega⟩
  rw [hm]
  refine seqK fun k hk => ?_
  simp only [wCallM, wSeq, wNext, wRet, wDrop, wAsg, wPar, wIf, wBrk, wCnt, wRaise, wIte, wAndV, wOrV, wNotV, wNeg, wAnd, wOr, wNot, wTest, wCB, wCons, wNil, wVar, wC, wBin, wTup, wLst, wLstM, wFrz, wIsN, wOrL, wDict0, wIt, wRng1, wRng2, wMeth, wMethT, wNoP, wPt, wSl, wRev, wRgs, fTupR, fLstR, fLstRM, rgM, wCall, wYes, bOf, gam0, List.map_cons, List.map_nil, List.length_cons, List.length_nil, List.replicate, List.cons_append, List.nil_append, List.append_nil, List.getElem?_cons_zero, List.getElem?_cons_succ, List.set_cons_zero, List.set_cons_succ, Nat.add_sub_cancel, Nat.sub_self, Nat.sub_zero, Nat.reduceAdd, Nat.reduceSub, Nat.zero_add, if_true, if_false, Bool.false_eq_true, Bool.not_true, Bool.not_false, true_and, and_true, Bool.and_true, Bool.true_and]
  refine ⟨rfl, turn_it m2 m5 fun a ta la => ⟨by decide, ?_⟩⟩
  refine ⟨_, [a], m, rfl, .inr rfl, by simp, ⟨m2, m5⟩, fun t ht => (by rw [List.mem_singleton.mp ht]; exact ⟨ta, la⟩), fun h e Gh => hk _ _ ?_⟩
  clear hk k
  have ht : ∀ t ∈ h, Tn m t := Gh.tn m2 m5 fun t ht => (by rw [List.mem_singleton.mp ht]; exact ⟨ta, la⟩)
  have hlen : h.length ≤ 152 := tn_len (ltL_nodup Gh.1) ht
  have nd_ : notAt n (.tup (h.map tI)) := by
    refine ⟨rows_okD h, fun xs e => ?_, ?_⟩
    · cases e
      refine ⟨by rw [List.length_map]; omega, fun d hd => ?_⟩
      obtain ⟨t, ht', rfl⟩ := List.mem_map.mp hd
      exact thing_okT (thing_tI (ht t ht').1)
    · rintro ⟨ts, e, tts, _⟩
      have e := rows_inj (D.tup.inj e)
      subst e
      have he : rgL m ∈ h := (Gh.2 _).mpr .e
      have := (tts _ he).2
      rw [rgL_len] at this
      exact mn this
  have et : eqOk (.str "turn") = true := by decide +kernel
  have eg : eqOk (.str "group") = true := by decide +kernel
  have es : eqOk (.str "size") = true := by decide +kernel
  obtain ⟨lt, hlt, al⟩ := last_row (g := g) (by rw [hq]; simp)
  refine seqK fun k hk => ?_
  simp only [dNe, dIx, items, al, res, et, eg, es, deq_str, wSeq, wNext, wRet, wDrop, wAsg, wPar, wIf, wBrk, wCnt, wRaise, wIte, wAndV, wOrV, wNotV, wNeg, wAnd, wOr, wNot, wTest, wCB, wCons, wNil, wVar, wC, wBin, wTup, wLst, wLstM, wFrz, wIsN, wOrL, wDict0, wIt, wRng1, wRng2, wMeth, wMethT, wNoP, wPt, wSl, wRev, wRgs, fTupR, fLstR, fLstRM, rgM, wCall, wYes, bOf, gam0, List.map_cons, List.map_nil, List.length_cons, List.length_nil, List.replicate, List.cons_append, List.nil_append, List.append_nil, List.getElem?_cons_zero, List.getElem?_cons_succ, List.set_cons_zero, List.set_cons_succ, Nat.add_sub_cancel, Nat.sub_self, Nat.sub_zero, Nat.reduceAdd, Nat.reduceSub, Nat.zero_add, if_true, if_false, Bool.false_eq_true, Bool.not_true, Bool.not_false, true_and, and_true, Bool.and_true, Bool.true_and]
  have dt_ : deq (.str "turn") (.str "turn") = true := by
    rw [deq_str]
    decide
  have dg_ : deq (.str "group") (.str "group") = true := by
    rw [deq_str]
    decide
  have dz_ : deq (.str "size") (.str "size") = true := by
    rw [deq_str]
    decide
  have tl := tt lt hlt
  refine t5_turn hodd.1 hodd.2 psg ⟨et, ?_⟩
  show if (!deq (.str "turn") (.str "turn")) = true then _ else _
  rw [dt_, if_neg (by decide)]
  refine t5_group tl nsg ⟨eg, ?_⟩
  show if (!deq (.str "group") (.str "group")) = true then _ else _
  rw [dg_, if_neg (by decide)]
  refine hk _ _ ?_
  clear hk k
  refine seqK fun k hk => ?_
  simp only [dNe, dIx, items, al, res, et, eg, es, deq_str, wSeq, wNext, wRet, wDrop, wAsg, wPar, wIf, wBrk, wCnt, wRaise, wIte, wAndV, wOrV, wNotV, wNeg, wAnd, wOr, wNot, wTest, wCB, wCons, wNil, wVar, wC, wBin, wTup, wLst, wLstM, wFrz, wIsN, wOrL, wDict0, wIt, wRng1, wRng2, wMeth, wMethT, wNoP, wPt, wSl, wRev, wRgs, fTupR, fLstR, fLstRM, rgM, wCall, wYes, bOf, gam0, List.map_cons, List.map_nil, List.length_cons, List.length_nil, List.replicate, List.cons_append, List.nil_append, List.append_nil, List.getElem?_cons_zero, List.getElem?_cons_succ, List.set_cons_zero, List.set_cons_succ, Nat.add_sub_cancel, Nat.sub_self, Nat.sub_zero, Nat.reduceAdd, Nat.reduceSub, Nat.zero_add, if_true, if_false, Bool.false_eq_true, Bool.not_true, Bool.not_false, true_and, and_true, Bool.and_true, Bool.true_and]
  refine t5_group tl nd_ ⟨eg, ?_⟩
  show if (!deq (.str "group") (.str "group")) = true then _ else _
  rw [dg_, if_neg (by decide)]
  refine t5_lots nd_ n2 n5 ⟨eg, ?_⟩
  show if (!deq (.str "group") (.str "group")) = true then _ else _
  rw [dg_, if_neg (by decide)]
  refine hk _ _ ?_
  clear hk k
  simp only [dEq, res, et, eg, es, deq_str, wSeq, wNext, wRet, wDrop, wAsg, wPar, wIf, wBrk, wCnt, wRaise, wIte, wAndV, wOrV, wNotV, wNeg, wAnd, wOr, wNot, wTest, wCB, wCons, wNil, wVar, wC, wBin, wTup, wLst, wLstM, wFrz, wIsN, wOrL, wDict0, wIt, wRng1, wRng2, wMeth, wMethT, wNoP, wPt, wSl, wRev, wRgs, fTupR, fLstR, fLstRM, rgM, wCall, wYes, bOf, gam0, List.map_cons, List.map_nil, List.length_cons, List.length_nil, List.replicate, List.cons_append, List.nil_append, List.append_nil, List.getElem?_cons_zero, List.getElem?_cons_succ, List.set_cons_zero, List.set_cons_succ, Nat.add_sub_cancel, Nat.sub_self, Nat.sub_zero, Nat.reduceAdd, Nat.reduceSub, Nat.zero_add, if_true, if_false, Bool.false_eq_true, Bool.not_true, Bool.not_false, true_and, and_true, Bool.and_true, Bool.true_and]
  refine t5_size psg hnone.1 (by simpa using hnone.2) ⟨es, ?_⟩
  refine t5_lots nsg n2 n5 ⟨eg, ?_⟩
  show D.pure (.bl (deq (.str "group") (.str "group"))) = true ∧ R (.bl (deq (.str "group") (.str "group")))
  rw [dg_]
  exact ⟨rfl, r⟩
end TC

set_option Elab.async false
set_option linter.all false
set_option maxRecDepth 100000
set_option maxHeartbeats 4000000
namespace TC
open PySem PySem.Spec PyProof.Rows L2
theorem getK_rep (c : Int) (ks : List (List Int)) (vs : List D) (t : List Int) : ∀ r : List (List Int), getK (r ++ ks) ((List.replicate r.length c).map D.int ++ vs) t = if t ∈ r then some (.int c) else getK ks vs t
  | [] => by simp
  | x :: r => by
    rw [List.length_cons, List.replicate_succ, List.map_cons, List.cons_append, List.cons_append, getK, getK_rep c ks vs t r]
    by_cases h : x = t
    · rw [if_pos h, if_pos (by rw [h]; exact List.mem_cons_self ..)]
    · rw [if_neg h]
      by_cases h2 : t ∈ r
      · rw [if_pos h2, if_pos (List.mem_cons_of_mem _ h2)]
      · rw [if_neg h2, if_neg (fun q => (List.mem_cons.mp q).elim (fun e => h e.symm) h2)]
theorem getK_flat : ∀ (rows : List (List (List Int))) (k : Nat) (t : List Int), t ∈ rows.flatten → ∃ (i : Nat) (h : i < rows.length), t ∈ rows[i] ∧ getK rows.flatten ((idxsOf k rows).map D.int) t = some (.int ((k + i : Nat) : Int))
  | [], _, _, h => by cases h
  | r :: rs, k, t, h => by
    rw [List.flatten_cons] at h
    rw [List.flatten_cons, idxsOf, List.map_append, getK_rep]
    by_cases ht : t ∈ r
    · exact ⟨0, by simp, ht, by rw [if_pos ht]; rfl⟩
    · obtain ⟨i, hi, h1, h2⟩ := getK_flat rs (k + 1) t ((List.mem_append.mp h).resolve_left ht)
      refine ⟨i + 1, by simpa using hi, h1, ?_⟩
      rw [if_neg ht, h2]
      congr 3
      omega
section
variable {n : Nat} {g : List (List Int)} {rows : List (List (List Int))} {a b t : List Int}
theorem LotsOk.had (G : Gs n g) (L : LotsOk n g rows) (ta : Tn n a) : a ∈ rows.flatten := by
  obtain ⟨r, hr, h⟩ := L.2.1 a ta
  exact List.mem_flatten.mpr ⟨r, hr, h⟩
/-- a's lot -/
theorem LotsOk.at (G : Gs n g) (L : LotsOk n g rows) (ta : Tn n a) : ∃ (i : Nat) (h : i < rows.length), LotOk g a rows[i] ∧ getK rows.flatten ((idxsOf 0 rows).map D.int) a = some (.int (i : Int)) := by
  obtain ⟨i, hi, h1, h2⟩ := getK_flat rows 0 a (L.had G ta)
  refine ⟨i, hi, ?_, by rw [h2, Nat.zero_add]⟩
  obtain ⟨x, tx, hx⟩ := L.1 _ (List.getElem_mem hi)
  have q := hx.mem.mp h1
  refine ⟨?_, hx.2⟩
  have nd : (g.map (putL a)).Nodup := List.pairwise_map.mpr (List.Pairwise.imp_of_mem (fun {u v} hu hv q e => q (put_cancel6 ta (G.tt u hu) (G.tt v hv) e)) (ltL_nodup G.ok.1))
  refine (List.perm_ext_iff_of_nodup (ltL_nodup hx.2) nd).mpr fun z => ?_
  rw [hx.mem, List.mem_map]
  constructor
  · intro hz
    obtain ⟨b, hb, e⟩ := rel_trans G ta (rel_symm G tx q) hz
    exact ⟨b, hb, e.symm⟩
  · rintro ⟨b, hb, e⟩
    exact rel_trans G tx q ⟨b, hb, e.symm⟩
theorem LotsOk.iff (G : Gs n g) (L : LotsOk n g rows) (ta : Tn n a) (tb : Tn n b) {i j : Nat} {hi : i < rows.length} {hj : j < rows.length} (h1 : LotOk g a rows[i]) (h2 : LotOk g b rows[j]) : i = j ↔ putL (backL a) b ∈ g := by
  rw [← rel_into G ta tb]
  constructor
  · intro e
    subst e
    exact h1.mem.mp (h2.mem.mpr (rel_refl G tb))
  · intro h
    have e := lot_same G ta h1 h2 h
    rcases Nat.lt_trichotomy i j with q | q | q
    · have p := List.pairwise_iff_getElem.mp L.2.2.1 i j hi hj q
      rw [e] at p
      exact absurd p (ltL_irr _)
    · exact q
    · have p := List.pairwise_iff_getElem.mp L.2.2.1 j i hj hi q
      rw [e] at p
      exact absurd p (ltL_irr _)
theorem LotsOk.all (G : Gs n g) (L : LotsOk n g rows) : rows.flatten.length = (plL n).length := by
  obtain ⟨p1, p2⟩ := pl_facts G.two G.five
  refine ((List.perm_ext_iff_of_nodup (L.nd G) (ltL_nodup p1)).mpr fun t => ?_).length_eq
  rw [p2 t]
  exact ⟨fun h => L.tn G h, fun h => L.had G h⟩
variable {A : Adr} {Q : D → Prop} {Z : Addr → Prop}
theorem lots_it (G : Gs n g) (q : ∀ rows, LotsOk n g rows → Q (.lst (rows.map lotD))) : pures [.tup (g.map tI), .int n] = true ∧ sp_lots A [.tup (g.map tI), .int n] Q Z := by
  have gl : g.length ≤ 152 := tn_len (ltL_nodup G.ok.1) G.tt
  have n2 := G.two
  have n5 := G.five
  refine ⟨pures_2 (pures_rows g) rfl, _, _, rfl, rfl, fun e => (isSize_no e ⟨by omega, by omega⟩).elim, fun m e _ _ => ?_⟩
  have : n = m := by
    have := D.int.inj e
    omega
  subst this
  refine ⟨rows_okD g, fun xs e => ?_, fun no => absurd ⟨g, rfl, G.tt, G.ok⟩ no, fun g' e _ _ rows L => ?_⟩
  · cases e
    refine ⟨by rw [List.length_map]; omega, fun d hd => ?_⟩
    obtain ⟨t, ht, rfl⟩ := List.mem_map.mp hd
    exact thing_okT (thing_tI (G.tt t ht).1)
  · have := rows_inj (D.tup.inj e)
    subst this
    exact q rows L
theorem lot_it (G : Gs n g) (ta : Tn n a) (q : ∀ c, LotOk g a c → Q (lotD c)) : pures [tI a, .tup (g.map tI)] = true ∧ sp_lot A [tI a, .tup (g.map tI)] Q Z := by
  have gl : g.length ≤ 152 := tn_len (ltL_nodup G.ok.1) G.tt
  have n2 := G.two
  have n5 := G.five
  refine ⟨pures_2 (pure_tI a) (pures_rows g), _, _, rfl, thing_okT (thing_tI ta.1), fun e => ?_, fun b m e tb _ _ => ?_⟩
  · rw [sizeOf_ok ta.1, ta.2] at e
    omega
  · have := tI_inj e
    subst this
    have : m = n := tb.2.symm.trans ta.2
    subst this
    refine ⟨rows_okD g, fun xs e => ?_, fun no => absurd ⟨g, rfl, G.tt, G.ok⟩ no, fun g' e _ _ c hc => ?_⟩
    · cases e
      refine ⟨by rw [List.length_map]; omega, fun d hd => ?_⟩
      obtain ⟨t, ht, rfl⟩ := List.mem_map.mp hd
      exact thing_okT (thing_tI (G.tt t ht).1)
    · have := rows_inj (D.tup.inj e)
      subst this
      exact q c hc
end
end TC

set_option Elab.async false
set_option linter.all false
set_option maxRecDepth 100000
set_option maxHeartbeats 4000000
namespace TC
open PySem PySem.Spec PyProof.Rows L2
theorem wLcL_any {j : Nat} {we : DX} {Γ : Gam} {μ : Mem} {R : List D → Mem → Prop} (C : D → Prop) (hp : ∀ d, C d → d.pure = true) : ∀ (ds acc : List D), (∀ x ∈ ds, ∀ μ' (Q : RD), (∀ d, C d → Q d μ') → we (Γ.set j (some x)) μ' Q Z0) → (∀ e ∈ acc, C e) →
    (∀ es : List D, (∀ e ∈ es, C e) → es.length = acc.length + ds.length → R es μ) → wLcL (tfN j) wYes we ds acc Γ μ R
  | [], acc, _, ha, r => r acc ha rfl
  | x :: xs, acc, he, ha, r => by
    show (μ ++ [Cell.lst acc] = μ ++ [Cell.lst acc] ∧ if true = true then _ else _)
    refine ⟨rfl, ?_⟩
    rw [if_pos rfl]
    refine he x (List.mem_cons_self ..) _ _ fun d hd => ⟨rfl, hp d hd, ?_⟩
    refine wLcL_any C hp xs (acc ++ [d]) (fun y hy => he y (List.mem_cons_of_mem _ hy)) (fun e he' => ?_) fun es h1 h2 => r es h1 (by rw [h2, List.length_append, List.length_singleton, List.length_cons]; omega)
    rcases List.mem_append.mp he' with h | h
    · exact ha e h
    · rw [List.mem_singleton.mp h]
      exact hd
theorem tn_rows {n : Nat} : ∀ {es : List D}, (∀ e ∈ es, ∃ t, e = tI t ∧ Tn n t) → ∃ ts : List (List Int), es = ts.map tI ∧ ∀ t ∈ ts, Tn n t
  | [], _ => ⟨[], rfl, fun t h => absurd h (by simp)⟩
  | e :: es, h => by
    obtain ⟨ts, rfl, h2⟩ := tn_rows (es := es) fun d hd => h d (List.mem_cons_of_mem _ hd)
    obtain ⟨t, rfl, ht⟩ := h e (List.mem_cons_self ..)
    refine ⟨t :: ts, rfl, fun u hu => ?_⟩
    rcases List.mem_cons.mp hu with rfl | hu
    · exact ht
    · exact h2 u hu
theorem GrpOk.self {n : Nat} {ts g : List (List Int)} (G : GrpOk n ts g) (n2 : 2 ≤ n) (n5 : n ≤ 5) (tt : ∀ t ∈ ts, Tn n t) : GrpOk n g g :=
  ⟨G.1, fun t => ⟨fun h => Cl.gen (G.tn n2 n5 tt t h) h, fun c => Cl.all (P := fun t => t ∈ g) ((G.2 _).mpr .e) (fun t u ht hu => G.mul n2 n5 tt ht hu) c⟩⟩
/-- the least normal group of these few commutators is what comes of all -/
theorem mixed_it {A : Adr} {n : Nat} {Q : D → Prop} {Z : Addr → Prop} (n2 : 2 ≤ n) (n5 : n ≤ 5) (q : ∀ ms : List Int, Tn n ms → Q (.lst (ms.map D.int))) : pures [.st, .lst ((rgL n).map D.int)] = true ∧ sx_law_mixed A [.st, .lst ((rgL n).map D.int)] Q Z := by
  refine ⟨pures_2 rfl (pures_ints _), .lst ((rgL n).map D.int), (rgL n).map D.int, rfl, rfl, by rw [List.length_map, rgL_len]; omega, .inl ⟨rgL n, rfl, fun ms hp => q ms ?_⟩⟩
  have hl := hp.length_eq
  rw [rgL_len] at hl
  exact ⟨tOk_of_perm hp (by omega) (by omega), hl⟩
section
variable {A : Adr} {n : Nat} {a b : List Int} {Q : D → Prop} {Z : Addr → Prop}
theorem into6 (ha : Tn n a) (hb : Tn n b) (q : Q (tI (putL a b))) : pures [tI a, tI b] = true ∧ sp_law_into A [tI a, tI b] Q Z :=
  ⟨pures2 a b, a, b, rfl, fun j hj => by rw [ha.2]; exact hb.rng j hj, by have := hb.bd; rw [hb.2]; omega, q⟩
theorem undone6 (ha : Tn n a) (q : Q (tI (backL a))) : pures [tI a] = true ∧ sp_law_undone A [tI a] Q Z :=
  ⟨pures1 a, a, rfl, fun j hj => (tOk_iff.mp ha.1).2 j hj, by have := ha.bd; rw [ha.2]; omega, q⟩
end
theorem cut_take (g : List (List Int)) (k : Nat) : cutD (g.map tI) none (some (k : Int)) = (g.take k).map tI := by
  unfold cutD
  rw [HT.sIx_nat, HT.sIx_none, List.drop_zero, List.length_map, Nat.sub_zero, ← List.map_take]
  congr 1
  rcases Nat.le_total k g.length with h | h
  · rw [Nat.min_eq_left h]
  · rw [Nat.min_eq_right h, List.take_of_length_le (Nat.le_refl _), List.take_of_length_le h]
theorem pure_law (K : PySem.W.Frag) (A : Adr) : w_law K A (gamS 12 1) [] ⟨fun _ _ => False, fun d _ => d = .bl true, fun _ _ => False, fun _ _ => False, fun _ _ _ => False⟩ := by
  have g0 : gamS 12 1 = [none, some .st, none, none, none, none, none, none, none, none, none, none] := rfl
  unfold w_law
  rw [g0]
  refine seqK fun k0 hk0 => ?_
  simp only [wFor, wSeq, wNext, wRet, wDrop, wAsg, wPar, wIf, wBrk, wCnt, wRaise, wIte, wAndV, wOrV, wNotV, wNeg, wAnd, wOr, wNot, wTest, wCB, wCons, wNil, wVar, wC, wBin, wTup, wLst, wLstM, wFrz, wIsN, wOrL, wDict0, wIt, wRng1, wRng2, wMeth, wMethT, wNoP, wPt, wSl, wRev, wRgs, fTupR, fLstR, fLstRM, rgM, wCall, wYes, bOf, gam0, List.map_cons, List.map_nil, List.length_cons, List.length_nil, List.replicate, List.cons_append, List.nil_append, List.append_nil, List.getElem?_cons_zero, List.getElem?_cons_succ, List.set_cons_zero, List.set_cons_succ, Nat.add_sub_cancel, Nat.sub_self, Nat.sub_zero, Nat.reduceAdd, Nat.reduceSub, Nat.zero_add, if_true, if_false, Bool.false_eq_true, Bool.not_true, Bool.not_false, true_and, and_true, Bool.and_true, Bool.true_and]
  refine ⟨by unfold rgOk; omega, ?_⟩
  refine wForL_go (fun xs Γ μ => ∃ d2 d3 d4 d5 d6 d7 d8 d9 d10 d11, Γ = [none, some .st, d2, d3, d4, d5, d6, d7, d8, d9, d10, d11]) ?_ ?_ _ _ _ ⟨_, _, _, _, _, _, _, _, _, _, rfl⟩
  · rintro Γ μ ⟨d2, d3, d4, d5, d6, d7, d8, d9, d10, d11, rfl⟩
    refine hk0 _ _ ?_
    simp only [wSeq, wNext, wRet, wDrop, wAsg, wPar, wIf, wBrk, wCnt, wRaise, wIte, wAndV, wOrV, wNotV, wNeg, wAnd, wOr, wNot, wTest, wCB, wCons, wNil, wVar, wC, wBin, wTup, wLst, wLstM, wFrz, wIsN, wOrL, wDict0, wIt, wRng1, wRng2, wMeth, wMethT, wNoP, wPt, wSl, wRev, wRgs, fTupR, fLstR, fLstRM, rgM, wCall, wYes, bOf, gam0, List.map_cons, List.map_nil, List.length_cons, List.length_nil, List.replicate, List.cons_append, List.nil_append, List.append_nil, List.getElem?_cons_zero, List.getElem?_cons_succ, List.set_cons_zero, List.set_cons_succ, Nat.add_sub_cancel, Nat.sub_self, Nat.sub_zero, Nat.reduceAdd, Nat.reduceSub, Nat.zero_add, if_true, if_false, Bool.false_eq_true, Bool.not_true, Bool.not_false, true_and, and_true, Bool.and_true, Bool.true_and]
  · rintro z xs Γ μ ⟨d2, d3, d4, d5, d6, d7, d8, d9, d10, d11, rfl⟩ nx hnx
    have hnx' : ∀ d2 d3 d4 d5 d6 d7 d8 d9 d10 d11 μ', nx [none, some .st, d2, d3, d4, d5, d6, d7, d8, d9, d10, d11] μ' := fun d2 d3 d4 d5 d6 d7 d8 d9 d10 d11 μ' => hnx _ _ ⟨_, _, _, _, _, _, _, _, _, _, rfl⟩
    clear hnx hk0
    refine seqK fun k hk => ?_
    simp only [wSeq, wNext, wRet, wDrop, wAsg, wPar, wIf, wBrk, wCnt, wRaise, wIte, wAndV, wOrV, wNotV, wNeg, wAnd, wOr, wNot, wTest, wCB, wCons, wNil, wVar, wC, wBin, wTup, wLst, wLstM, wFrz, wIsN, wOrL, wDict0, wIt, wRng1, wRng2, wMeth, wMethT, wNoP, wPt, wSl, wRev, wRgs, fTupR, fLstR, fLstRM, rgM, wCall, wYes, bOf, gam0, List.map_cons, List.map_nil, List.length_cons, List.length_nil, List.replicate, List.cons_append, List.nil_append, List.append_nil, List.getElem?_cons_zero, List.getElem?_cons_succ, List.set_cons_zero, List.set_cons_succ, Nat.add_sub_cancel, Nat.sub_self, Nat.sub_zero, Nat.reduceAdd, Nat.reduceSub, Nat.zero_add, if_true, if_false, Bool.false_eq_true, Bool.not_true, Bool.not_false, true_and, and_true, Bool.and_true, Bool.true_and]
    refine ⟨rfl, draw_it (by decide) (by decide) fun r0 hr0 => ?_⟩
    simp only [dAdd, wSeq, wNext, wRet, wDrop, wAsg, wPar, wIf, wBrk, wCnt, wRaise, wIte, wAndV, wOrV, wNotV, wNeg, wAnd, wOr, wNot, wTest, wCB, wCons, wNil, wVar, wC, wBin, wTup, wLst, wLstM, wFrz, wIsN, wOrL, wDict0, wIt, wRng1, wRng2, wMeth, wMethT, wNoP, wPt, wSl, wRev, wRgs, fTupR, fLstR, fLstRM, rgM, wCall, wYes, bOf, gam0, List.map_cons, List.map_nil, List.length_cons, List.length_nil, List.replicate, List.cons_append, List.nil_append, List.append_nil, List.getElem?_cons_zero, List.getElem?_cons_succ, List.set_cons_zero, List.set_cons_succ, Nat.add_sub_cancel, Nat.sub_self, Nat.sub_zero, Nat.reduceAdd, Nat.reduceSub, Nat.zero_add, if_true, if_false, Bool.false_eq_true, Bool.not_true, Bool.not_false, true_and, and_true, Bool.and_true, Bool.true_and]
    obtain ⟨n, hn⟩ : ∃ n : Nat, (2 + (r0 : Int)) = n := ⟨2 + r0, by omega⟩
    rw [hn]
    have n2 : 2 ≤ n := by omega
    have n5 : n ≤ 5 := by omega
    refine hk _ _ ?_
    clear hk k
    refine seqK fun k hk => ?_
    simp only [wCallM, wLc, wipeG, dAdd, wSeq, wNext, wRet, wDrop, wAsg, wPar, wIf, wBrk, wCnt, wRaise, wIte, wAndV, wOrV, wNotV, wNeg, wAnd, wOr, wNot, wTest, wCB, wCons, wNil, wVar, wC, wBin, wTup, wLst, wLstM, wFrz, wIsN, wOrL, wDict0, wIt, wRng1, wRng2, wMeth, wMethT, wNoP, wPt, wSl, wRev, wRgs, fTupR, fLstR, fLstRM, rgM, wCall, wYes, bOf, gam0, List.map_cons, List.map_nil, List.length_cons, List.length_nil, List.replicate, List.cons_append, List.nil_append, List.append_nil, List.getElem?_cons_zero, List.getElem?_cons_succ, List.set_cons_zero, List.set_cons_succ, Nat.add_sub_cancel, Nat.sub_self, Nat.sub_zero, Nat.reduceAdd, Nat.reduceSub, Nat.zero_add, if_true, if_false, Bool.false_eq_true, Bool.not_true, Bool.not_false, true_and, and_true, Bool.and_true, Bool.true_and]
    refine ⟨rfl, draw_it (by decide) (by decide) fun r1 hr1 => ⟨by unfold rgOk; omega, ?_⟩⟩
    obtain ⟨m1, hm1⟩ : ∃ m1 : Nat, (r1 : Int) = m1 := ⟨r1, rfl⟩
    have rl : (rgD 0 (r1 : Int)).length = r1 := by
      rw [rgD_rgL, List.length_map, rgL_len]
    refine ⟨by rw [rl]; unfold big; omega, ?_⟩
    refine wLcL_any (fun d => ∃ t, d = tI t ∧ Tn n t) (fun d ⟨t, e, _⟩ => by rw [e]; exact pure_tI t) _ [] (fun x hx μ' Q q => ?_) (fun e h => absurd h (by simp)) fun es he el => ?_
    · simp only [wSeq, wNext, wRet, wDrop, wAsg, wPar, wIf, wBrk, wCnt, wRaise, wIte, wAndV, wOrV, wNotV, wNeg, wAnd, wOr, wNot, wTest, wCB, wCons, wNil, wVar, wC, wBin, wTup, wLst, wLstM, wFrz, wIsN, wOrL, wDict0, wIt, wRng1, wRng2, wMeth, wMethT, wNoP, wPt, wSl, wRev, wRgs, fTupR, fLstR, fLstRM, rgM, wCall, wYes, bOf, gam0, List.map_cons, List.map_nil, List.length_cons, List.length_nil, List.replicate, List.cons_append, List.nil_append, List.append_nil, List.getElem?_cons_zero, List.getElem?_cons_succ, List.set_cons_zero, List.set_cons_succ, Nat.add_sub_cancel, Nat.sub_self, Nat.sub_zero, Nat.reduceAdd, Nat.reduceSub, Nat.zero_add, if_true, if_false, Bool.false_eq_true, Bool.not_true, Bool.not_false, true_and, and_true, Bool.and_true, Bool.true_and]
      exact ⟨rfl, turn_it n2 n5 fun a ta la => q _ ⟨a, rfl, ta, la⟩⟩
    rw [rl] at el
    obtain ⟨ts, rfl, tt⟩ := tn_rows he
    rw [List.length_map, List.length_nil] at el
    clear he
    refine ⟨_, ts, n, rfl, .inr rfl, by omega, ⟨n2, n5⟩, tt, fun g e G0 => hk _ _ ?_⟩
    clear hk k
    have gt : ∀ t ∈ g, Tn n t := G0.tn n2 n5 tt
    have gg : GrpOk n g g := G0.self n2 n5 tt
    have G : Gs n g := ⟨n2, n5, gt, gg⟩
    clear G0 tt el rl hm1
    generalize μ ++ e = μ
    refine seqK fun k hk => ?_
    simp only [wSeq, wNext, wRet, wDrop, wAsg, wPar, wIf, wBrk, wCnt, wRaise, wIte, wAndV, wOrV, wNotV, wNeg, wAnd, wOr, wNot, wTest, wCB, wCons, wNil, wVar, wC, wBin, wTup, wLst, wLstM, wFrz, wIsN, wOrL, wDict0, wIt, wRng1, wRng2, wMeth, wMethT, wNoP, wPt, wSl, wRev, wRgs, fTupR, fLstR, fLstRM, rgM, wCall, wYes, bOf, gam0, List.map_cons, List.map_nil, List.length_cons, List.length_nil, List.replicate, List.cons_append, List.nil_append, List.append_nil, List.getElem?_cons_zero, List.getElem?_cons_succ, List.set_cons_zero, List.set_cons_succ, Nat.add_sub_cancel, Nat.sub_self, Nat.sub_zero, Nat.reduceAdd, Nat.reduceSub, Nat.zero_add, if_true, if_false, Bool.false_eq_true, Bool.not_true, Bool.not_false, true_and, and_true, Bool.and_true, Bool.true_and]
    refine lots_it G fun rows L => hk _ _ ?_
    clear hk k
    have nd := L.nd G
    have fl : rows.flatten.length ≤ 152 := tn_len nd fun t ht => L.tn G ht
    have gl : g.length ≤ 152 := tn_len (ltL_nodup gg.1) gt
    have rl := L.2.2.2
    refine seqK fun k hk => ?_
    simp only [dIsi, tyN, res, wSeq, wNext, wRet, wDrop, wAsg, wPar, wIf, wBrk, wCnt, wRaise, wIte, wAndV, wOrV, wNotV, wNeg, wAnd, wOr, wNot, wTest, wCB, wCons, wNil, wVar, wC, wBin, wTup, wLst, wLstM, wFrz, wIsN, wOrL, wDict0, wIt, wRng1, wRng2, wMeth, wMethT, wNoP, wPt, wSl, wRev, wRgs, fTupR, fLstR, fLstRM, rgM, wCall, wYes, bOf, gam0, List.map_cons, List.map_nil, List.length_cons, List.length_nil, List.replicate, List.cons_append, List.nil_append, List.append_nil, List.getElem?_cons_zero, List.getElem?_cons_succ, List.set_cons_zero, List.set_cons_succ, Nat.add_sub_cancel, Nat.sub_self, Nat.sub_zero, Nat.reduceAdd, Nat.reduceSub, Nat.zero_add, if_true, if_false, Bool.false_eq_true, Bool.not_true, Bool.not_false, true_and, and_true, Bool.and_true, Bool.true_and]
    refine ⟨by decide, ?_⟩
    rw [if_neg (by decide)]
    refine ⟨pures_3 rfl (pures_rows g) rfl, g, n, rfl, ⟨n2, n5⟩, gt, gg, ?_⟩
    simp only [wSeq, wNext, wRet, wDrop, wAsg, wPar, wIf, wBrk, wCnt, wRaise, wIte, wAndV, wOrV, wNotV, wNeg, wAnd, wOr, wNot, wTest, wCB, wCons, wNil, wVar, wC, wBin, wTup, wLst, wLstM, wFrz, wIsN, wOrL, wDict0, wIt, wRng1, wRng2, wMeth, wMethT, wNoP, wPt, wSl, wRev, wRgs, fTupR, fLstR, fLstRM, rgM, wCall, wYes, bOf, gam0, List.map_cons, List.map_nil, List.length_cons, List.length_nil, List.replicate, List.cons_append, List.nil_append, List.append_nil, List.getElem?_cons_zero, List.getElem?_cons_succ, List.set_cons_zero, List.set_cons_succ, Nat.add_sub_cancel, Nat.sub_self, Nat.sub_zero, Nat.reduceAdd, Nat.reduceSub, Nat.zero_add, if_true, if_false, Bool.false_eq_true, Bool.not_true, Bool.not_false, true_and, and_true, Bool.and_true, Bool.true_and]
    refine hk _ _ ?_
    clear hk k
    refine seqK fun k hk => ?_
    simp only [wSeq, wNext, wRet, wDrop, wAsg, wPar, wIf, wBrk, wCnt, wRaise, wIte, wAndV, wOrV, wNotV, wNeg, wAnd, wOr, wNot, wTest, wCB, wCons, wNil, wVar, wC, wBin, wTup, wLst, wLstM, wFrz, wIsN, wOrL, wDict0, wIt, wRng1, wRng2, wMeth, wMethT, wNoP, wPt, wSl, wRev, wRgs, fTupR, fLstR, fLstRM, rgM, wCall, wYes, bOf, gam0, List.map_cons, List.map_nil, List.length_cons, List.length_nil, List.replicate, List.cons_append, List.nil_append, List.append_nil, List.getElem?_cons_zero, List.getElem?_cons_succ, List.set_cons_zero, List.set_cons_succ, Nat.add_sub_cancel, Nat.sub_self, Nat.sub_zero, Nat.reduceAdd, Nat.reduceSub, Nat.zero_add, if_true, if_false, Bool.false_eq_true, Bool.not_true, Bool.not_false, true_and, and_true, Bool.and_true, Bool.true_and]
    refine ⟨pures_1 (pures_lots rows), rows, g, n, rfl, ⟨n2, n5⟩, gt, gg, L, hk _ _ ?_⟩
    clear hk k
    refine seqK fun k hk => ?_
    simp only [isNon, dLen, dLenI, dtOf, dNe, items, res, wLc, wipeG, itemsI, wSeq, wNext, wRet, wDrop, wAsg, wPar, wIf, wBrk, wCnt, wRaise, wIte, wAndV, wOrV, wNotV, wNeg, wAnd, wOr, wNot, wTest, wCB, wCons, wNil, wVar, wC, wBin, wTup, wLst, wLstM, wFrz, wIsN, wOrL, wDict0, wIt, wRng1, wRng2, wMeth, wMethT, wNoP, wPt, wSl, wRev, wRgs, fTupR, fLstR, fLstRM, rgM, wCall, wYes, bOf, gam0, List.map_cons, List.map_nil, List.length_cons, List.length_nil, List.replicate, List.cons_append, List.nil_append, List.append_nil, List.getElem?_cons_zero, List.getElem?_cons_succ, List.set_cons_zero, List.set_cons_succ, Nat.add_sub_cancel, Nat.sub_self, Nat.sub_zero, Nat.reduceAdd, Nat.reduceSub, Nat.zero_add, if_true, if_false, Bool.false_eq_true, Bool.not_true, Bool.not_false, true_and, and_true, Bool.and_true, Bool.true_and]
    refine ⟨pures_1 rfl, n, rfl, ⟨n2, n5⟩, ⟨eqOk_int _, eqOk_int _⟩, ?_⟩
    have hd1 : deq (D.int (rows.flatten.length : Int)) (.int ([1, 1, 2, 6, 24, 120].getD n 0)) = true := by
      rw [deq_int, L.all G, pl_fact n2 n5]
      simp
    have hd2 : deq (D.lst []) (.lst []) = true := (deq_rowsL [] []).trans (by decide)
    show if (!deq (D.int (rows.flatten.length : Int)) (.int ([1, 1, 2, 6, 24, 120].getD n 0))) = true then _ else _
    rw [hd1, if_neg (by decide)]
    refine ⟨by rw [List.length_map]; unfold big; omega, wLcL_filter (fun _ => false) _ (fun d hd μ' Q q => ?_) (fun d hd h => (by cases h)) ?_⟩
    · obtain ⟨c, hc, rfl⟩ := List.mem_map.mp hd
      obtain ⟨a, ta, ha⟩ := L.1 c hc
      have hl := ha.len
      have hd3 : deq (D.int (c.length : Int)) (.int (g.length : Int)) = true := by
        rw [deq_int, hl]
        simp
      simp only [lotD, dNe, dLen, items, res, List.length_map, hd3, wSeq, wNext, wRet, wDrop, wAsg, wPar, wIf, wBrk, wCnt, wRaise, wIte, wAndV, wOrV, wNotV, wNeg, wAnd, wOr, wNot, wTest, wCB, wCons, wNil, wVar, wC, wBin, wTup, wLst, wLstM, wFrz, wIsN, wOrL, wDict0, wIt, wRng1, wRng2, wMeth, wMethT, wNoP, wPt, wSl, wRev, wRgs, fTupR, fLstR, fLstRM, rgM, wCall, wYes, bOf, gam0, List.map_cons, List.map_nil, List.length_cons, List.length_nil, List.replicate, List.cons_append, List.nil_append, List.append_nil, List.getElem?_cons_zero, List.getElem?_cons_succ, List.set_cons_zero, List.set_cons_succ, Nat.add_sub_cancel, Nat.sub_self, Nat.sub_zero, Nat.reduceAdd, Nat.reduceSub, Nat.zero_add, if_true, if_false, Bool.false_eq_true, Bool.not_true, Bool.not_false, true_and, and_true, Bool.and_true, Bool.true_and]
      exact ⟨⟨eqOk_int _, eqOk_int _⟩, q⟩
    have ef : (rows.map lotD).filter (fun _ => false) = [] := List.filter_eq_nil_iff.mpr fun _ _ h => by cases h
    rw [ef]
    refine ⟨by decide, ⟨eqOk_rowsL [], eqOk_rowsL []⟩, ?_⟩
    show if (!deq (D.lst []) (.lst [])) = true then _ else _
    rw [hd2, if_neg (by decide)]
    refine hk _ _ ?_
    clear hk k hd1 hd2 ef
    refine seqK fun k hk => ?_
    simp only [wFor, dLen, dLt, fI, fT, items, List.length_map, wSeq, wNext, wRet, wDrop, wAsg, wPar, wIf, wBrk, wCnt, wRaise, wIte, wAndV, wOrV, wNotV, wNeg, wAnd, wOr, wNot, wTest, wCB, wCons, wNil, wVar, wC, wBin, wTup, wLst, wLstM, wFrz, wIsN, wOrL, wDict0, wIt, wRng1, wRng2, wMeth, wMethT, wNoP, wPt, wSl, wRev, wRgs, fTupR, fLstR, fLstRM, rgM, wCall, wYes, bOf, gam0, List.map_cons, List.map_nil, List.length_cons, List.length_nil, List.replicate, List.cons_append, List.nil_append, List.append_nil, List.getElem?_cons_zero, List.getElem?_cons_succ, List.set_cons_zero, List.set_cons_succ, Nat.add_sub_cancel, Nat.sub_self, Nat.sub_zero, Nat.reduceAdd, Nat.reduceSub, Nat.zero_add, if_true, if_false, Bool.false_eq_true, Bool.not_true, Bool.not_false, true_and, and_true, Bool.and_true, Bool.true_and]
    have rk : rgOk (n : Int) := by unfold rgOk; omega
    split <;> refine ⟨by unfold rgOk; omega, ?_⟩
    all_goals
      refine wForL_go (fun ys Γ μ => ∃ d7 d8 d9 d10, Γ = [none, some .st, some z, some (.int (n : Int)), some (.tup (g.map tI)), some (.lst (rows.map lotD)), some (.dt rows.flatten ((idxsOf 0 rows).map D.int)), d7, d8, d9, d10, d11]) ?_ ?_ _ _ _ ⟨_, _, _, _, rfl⟩
      · rintro Γ μ ⟨d7, d8, d9, d10, rfl⟩
        refine hk _ _ ?_
        simp only [wSeq, wNext, wRet, wDrop, wAsg, wPar, wIf, wBrk, wCnt, wRaise, wIte, wAndV, wOrV, wNotV, wNeg, wAnd, wOr, wNot, wTest, wCB, wCons, wNil, wVar, wC, wBin, wTup, wLst, wLstM, wFrz, wIsN, wOrL, wDict0, wIt, wRng1, wRng2, wMeth, wMethT, wNoP, wPt, wSl, wRev, wRgs, fTupR, fLstR, fLstRM, rgM, wCall, wYes, bOf, gam0, List.map_cons, List.map_nil, List.length_cons, List.length_nil, List.replicate, List.cons_append, List.nil_append, List.append_nil, List.getElem?_cons_zero, List.getElem?_cons_succ, List.set_cons_zero, List.set_cons_succ, Nat.add_sub_cancel, Nat.sub_self, Nat.sub_zero, Nat.reduceAdd, Nat.reduceSub, Nat.zero_add, if_true, if_false, Bool.false_eq_true, Bool.not_true, Bool.not_false, true_and, and_true, Bool.and_true, Bool.true_and]
        exact hnx' _ _ _ _ _ _ _ _ _ _ _
      · rintro y ys Γ μ ⟨d7, d8, d9, d10, rfl⟩ nx2 hnx2
        clear hk
        refine seqK fun k hk => ?_
        simp only [wSeq, wNext, wRet, wDrop, wAsg, wPar, wIf, wBrk, wCnt, wRaise, wIte, wAndV, wOrV, wNotV, wNeg, wAnd, wOr, wNot, wTest, wCB, wCons, wNil, wVar, wC, wBin, wTup, wLst, wLstM, wFrz, wIsN, wOrL, wDict0, wIt, wRng1, wRng2, wMeth, wMethT, wNoP, wPt, wSl, wRev, wRgs, fTupR, fLstR, fLstRM, rgM, wCall, wYes, bOf, gam0, List.map_cons, List.map_nil, List.length_cons, List.length_nil, List.replicate, List.cons_append, List.nil_append, List.append_nil, List.getElem?_cons_zero, List.getElem?_cons_succ, List.set_cons_zero, List.set_cons_succ, Nat.add_sub_cancel, Nat.sub_self, Nat.sub_zero, Nat.reduceAdd, Nat.reduceSub, Nat.zero_add, if_true, if_false, Bool.false_eq_true, Bool.not_true, Bool.not_false, true_and, and_true, Bool.and_true, Bool.true_and]
        refine ⟨rk, ?_⟩
        rw [rgD_rgL]
        refine mixed_it n2 n5 fun one t1 => ?_
        simp only [dTupOf, items, wSeq, wNext, wRet, wDrop, wAsg, wPar, wIf, wBrk, wCnt, wRaise, wIte, wAndV, wOrV, wNotV, wNeg, wAnd, wOr, wNot, wTest, wCB, wCons, wNil, wVar, wC, wBin, wTup, wLst, wLstM, wFrz, wIsN, wOrL, wDict0, wIt, wRng1, wRng2, wMeth, wMethT, wNoP, wPt, wSl, wRev, wRgs, fTupR, fLstR, fLstRM, rgM, wCall, wYes, bOf, gam0, List.map_cons, List.map_nil, List.length_cons, List.length_nil, List.replicate, List.cons_append, List.nil_append, List.append_nil, List.getElem?_cons_zero, List.getElem?_cons_succ, List.set_cons_zero, List.set_cons_succ, Nat.add_sub_cancel, Nat.sub_self, Nat.sub_zero, Nat.reduceAdd, Nat.reduceSub, Nat.zero_add, if_true, if_false, Bool.false_eq_true, Bool.not_true, Bool.not_false, true_and, and_true, Bool.and_true, Bool.true_and]
        refine ⟨rk, ?_⟩
        refine mixed_it n2 n5 fun other t2 => ?_
        simp only [dTupOf, items, wSeq, wNext, wRet, wDrop, wAsg, wPar, wIf, wBrk, wCnt, wRaise, wIte, wAndV, wOrV, wNotV, wNeg, wAnd, wOr, wNot, wTest, wCB, wCons, wNil, wVar, wC, wBin, wTup, wLst, wLstM, wFrz, wIsN, wOrL, wDict0, wIt, wRng1, wRng2, wMeth, wMethT, wNoP, wPt, wSl, wRev, wRgs, fTupR, fLstR, fLstRM, rgM, wCall, wYes, bOf, gam0, List.map_cons, List.map_nil, List.length_cons, List.length_nil, List.replicate, List.cons_append, List.nil_append, List.append_nil, List.getElem?_cons_zero, List.getElem?_cons_succ, List.set_cons_zero, List.set_cons_succ, Nat.add_sub_cancel, Nat.sub_self, Nat.sub_zero, Nat.reduceAdd, Nat.reduceSub, Nat.zero_add, if_true, if_false, Bool.false_eq_true, Bool.not_true, Bool.not_false, true_and, and_true, Bool.and_true, Bool.true_and]
        refine hk _ _ ?_
        clear hk k
        obtain ⟨i, hi, li, gi⟩ := L.at G t1
        obtain ⟨j, hj, lj, gj⟩ := L.at G t2
        have c1 : rows.flatten.contains one = true := by simpa using L.had G t1
        have c2 : rows.flatten.contains other = true := by simpa using L.had G t2
        have k1 : keyD (D.tup (one.map D.int)) = some one := keyD_tI one
        have k2 : keyD (D.tup (other.map D.int)) = some other := keyD_tI other
        have a1 : atI (rows.map lotD) (i : Int) = some (lotD rows[i]) := by
          refine atI_in (by omega) ?_
          rw [Int.toNat_natCast, List.getElem?_map, List.getElem?_eq_getElem hi]
          rfl
        refine seqK fun k hk => ?_
        simp only [dDIn, dtOf, dNe, dDGet, dIx, items, k1, k2, c1, c2, gi, gj, a1, wSeq, wNext, wRet, wDrop, wAsg, wPar, wIf, wBrk, wCnt, wRaise, wIte, wAndV, wOrV, wNotV, wNeg, wAnd, wOr, wNot, wTest, wCB, wCons, wNil, wVar, wC, wBin, wTup, wLst, wLstM, wFrz, wIsN, wOrL, wDict0, wIt, wRng1, wRng2, wMeth, wMethT, wNoP, wPt, wSl, wRev, wRgs, fTupR, fLstR, fLstRM, rgM, wCall, wYes, bOf, gam0, List.map_cons, List.map_nil, List.length_cons, List.length_nil, List.replicate, List.cons_append, List.nil_append, List.append_nil, List.getElem?_cons_zero, List.getElem?_cons_succ, List.set_cons_zero, List.set_cons_succ, Nat.add_sub_cancel, Nat.sub_self, Nat.sub_zero, Nat.reduceAdd, Nat.reduceSub, Nat.zero_add, if_true, if_false, Bool.false_eq_true, Bool.not_true, Bool.not_false, true_and, and_true, Bool.and_true, Bool.true_and]
        refine lot_it G t1 fun c hc => ?_
        have ec : c = rows[i] := lot_same G t1 hc li (rel_refl G t1)
        subst ec
        have hd1 : deq (lotD rows[i]) (lotD rows[i]) = true := (deq_rowsT _ _).trans (by simp)
        refine ⟨⟨eqOk_rowsT _, eqOk_rowsT _⟩, ?_⟩
        show if (!deq (lotD rows[i]) (lotD rows[i])) = true then _ else _
        rw [hd1, if_neg (by decide)]
        refine hk _ _ ?_
        clear hk k
        refine seqK fun k hk => ?_
        simp only [dDIn, dtOf, dNe, dEq, dInP, dDGet, res, k1, k2, gi, gj, wSeq, wNext, wRet, wDrop, wAsg, wPar, wIf, wBrk, wCnt, wRaise, wIte, wAndV, wOrV, wNotV, wNeg, wAnd, wOr, wNot, wTest, wCB, wCons, wNil, wVar, wC, wBin, wTup, wLst, wLstM, wFrz, wIsN, wOrL, wDict0, wIt, wRng1, wRng2, wMeth, wMethT, wNoP, wPt, wSl, wRev, wRgs, fTupR, fLstR, fLstRM, rgM, wCall, wYes, bOf, gam0, List.map_cons, List.map_nil, List.length_cons, List.length_nil, List.replicate, List.cons_append, List.nil_append, List.append_nil, List.getElem?_cons_zero, List.getElem?_cons_succ, List.set_cons_zero, List.set_cons_succ, Nat.add_sub_cancel, Nat.sub_self, Nat.sub_zero, Nat.reduceAdd, Nat.reduceSub, Nat.zero_add, if_true, if_false, Bool.false_eq_true, Bool.not_true, Bool.not_false, true_and, and_true, Bool.and_true, Bool.true_and]
        refine ⟨⟨eqOk_int _, eqOk_int _⟩, undone6 t1 (into6 t1.bk t2 ⟨⟨eqOk_tI _, eqOk_rowsT _⟩, ⟨eqOk_bl _, eqOk_bl _⟩, ?_⟩)⟩
        have hb : deq (D.bl (deq (D.int (i : Int)) (D.int (j : Int)))) (D.bl ((g.map tI).any fun z => deq z (tI (putL (backL one) other)))) = true := by
          rw [deq_bl, any_rows, deq_int]
          have q := L.iff G t1 t2 li lj
          by_cases e : i = j
          · have m := q.mp e
            rw [decide_eq_true m, e]
            simp
          · have m : ¬ putL (backL one) other ∈ g := fun m => e (q.mpr m)
            rw [decide_eq_false m]
            have : ¬ (i : Int) = (j : Int) := by omega
            simp [this]
        show if (!deq (D.bl (deq (D.int (i : Int)) (D.int (j : Int)))) (D.bl ((g.map tI).any fun z => deq z (tI (putL (backL one) other))))) = true then _ else _
        rw [hb, if_neg (by decide)]
        refine hk _ _ ?_
        clear hk k hb
        refine seqK fun k hk => ?_
        simp only [wFor, itemsI, wSeq, wNext, wRet, wDrop, wAsg, wPar, wIf, wBrk, wCnt, wRaise, wIte, wAndV, wOrV, wNotV, wNeg, wAnd, wOr, wNot, wTest, wCB, wCons, wNil, wVar, wC, wBin, wTup, wLst, wLstM, wFrz, wIsN, wOrL, wDict0, wIt, wRng1, wRng2, wMeth, wMethT, wNoP, wPt, wSl, wRev, wRgs, fTupR, fLstR, fLstRM, rgM, wCall, wYes, bOf, gam0, List.map_cons, List.map_nil, List.length_cons, List.length_nil, List.replicate, List.cons_append, List.nil_append, List.append_nil, List.getElem?_cons_zero, List.getElem?_cons_succ, List.set_cons_zero, List.set_cons_succ, Nat.add_sub_cancel, Nat.sub_self, Nat.sub_zero, Nat.reduceAdd, Nat.reduceSub, Nat.zero_add, if_true, if_false, Bool.false_eq_true, Bool.not_true, Bool.not_false, true_and, and_true, Bool.and_true, Bool.true_and]
        have ec : cutD (g.map tI) none (some 30) = (g.take 30).map tI := cut_take g 30
        rw [ec]
        refine wForL_go (fun r2 Γ μ => ∃ (rest2 : List (List Int)) (d8 : Option D), r2 = rest2.map tI ∧ (∀ t ∈ rest2, t ∈ g) ∧
          Γ = [none, some .st, some z, some (.int (n : Int)), some (.tup (g.map tI)), some (.lst (rows.map lotD)), some (.dt rows.flatten ((idxsOf 0 rows).map D.int)), some y, d8, some (.tup (one.map D.int)), some (.tup (other.map D.int)), d11]) ?_ ?_ _ _ _
          ⟨g.take 30, d8, rfl, fun t ht => List.mem_of_mem_take ht, rfl⟩
        · rintro Γ μ ⟨rest2, d8, e2, _, rfl⟩
          refine hk _ _ ?_
          simp only [wSeq, wNext, wRet, wDrop, wAsg, wPar, wIf, wBrk, wCnt, wRaise, wIte, wAndV, wOrV, wNotV, wNeg, wAnd, wOr, wNot, wTest, wCB, wCons, wNil, wVar, wC, wBin, wTup, wLst, wLstM, wFrz, wIsN, wOrL, wDict0, wIt, wRng1, wRng2, wMeth, wMethT, wNoP, wPt, wSl, wRev, wRgs, fTupR, fLstR, fLstRM, rgM, wCall, wYes, bOf, gam0, List.map_cons, List.map_nil, List.length_cons, List.length_nil, List.replicate, List.cons_append, List.nil_append, List.append_nil, List.getElem?_cons_zero, List.getElem?_cons_succ, List.set_cons_zero, List.set_cons_succ, Nat.add_sub_cancel, Nat.sub_self, Nat.sub_zero, Nat.reduceAdd, Nat.reduceSub, Nat.zero_add, if_true, if_false, Bool.false_eq_true, Bool.not_true, Bool.not_false, true_and, and_true, Bool.and_true, Bool.true_and]
          exact hnx2 _ _ ⟨_, _, _, _, rfl⟩
        · rintro d r3 Γ μ ⟨rest2, d8, e2, hin, rfl⟩ nx3 hnx3
          cases rest2 with
          | nil => cases e2
          | cons u rest2 =>
            rw [List.map_cons] at e2
            obtain ⟨rfl, rfl⟩ := List.cons.inj e2
            have ug := hin u (List.mem_cons_self ..)
            have tu := gt u ug
            obtain ⟨m, hm, lm, gm⟩ := L.at G (t1.put tu)
            have em : m = i := (L.iff G (t1.put tu) t1 lm li).mpr ((rel_into G (t1.put tu) t1).mp (rel_symm G t1 ⟨u, ug, rfl⟩))
            subst em
            have k3 : keyD (tI (putL one u)) = some (putL one u) := keyD_tI _
            refine seqK fun k hk => ?_
            simp only [dNe, dDGet, dtOf, res, k1, gi, wSeq, wNext, wRet, wDrop, wAsg, wPar, wIf, wBrk, wCnt, wRaise, wIte, wAndV, wOrV, wNotV, wNeg, wAnd, wOr, wNot, wTest, wCB, wCons, wNil, wVar, wC, wBin, wTup, wLst, wLstM, wFrz, wIsN, wOrL, wDict0, wIt, wRng1, wRng2, wMeth, wMethT, wNoP, wPt, wSl, wRev, wRgs, fTupR, fLstR, fLstRM, rgM, wCall, wYes, bOf, gam0, List.map_cons, List.map_nil, List.length_cons, List.length_nil, List.replicate, List.cons_append, List.nil_append, List.append_nil, List.getElem?_cons_zero, List.getElem?_cons_succ, List.set_cons_zero, List.set_cons_succ, Nat.add_sub_cancel, Nat.sub_self, Nat.sub_zero, Nat.reduceAdd, Nat.reduceSub, Nat.zero_add, if_true, if_false, Bool.false_eq_true, Bool.not_true, Bool.not_false, true_and, and_true, Bool.and_true, Bool.true_and]
            refine into6 t1 tu ?_
            simp only [k3, gm]
            have hd : deq (D.int (m : Int)) (.int (m : Int)) = true := by
              rw [deq_int]
              simp
            refine ⟨⟨eqOk_int _, eqOk_int _⟩, ?_⟩
            show if (!deq (D.int (m : Int)) (.int (m : Int))) = true then _ else _
            rw [hd, if_neg (by decide)]
            refine hk _ _ ?_
            simp only [wSeq, wNext, wRet, wDrop, wAsg, wPar, wIf, wBrk, wCnt, wRaise, wIte, wAndV, wOrV, wNotV, wNeg, wAnd, wOr, wNot, wTest, wCB, wCons, wNil, wVar, wC, wBin, wTup, wLst, wLstM, wFrz, wIsN, wOrL, wDict0, wIt, wRng1, wRng2, wMeth, wMethT, wNoP, wPt, wSl, wRev, wRgs, fTupR, fLstR, fLstRM, rgM, wCall, wYes, bOf, gam0, List.map_cons, List.map_nil, List.length_cons, List.length_nil, List.replicate, List.cons_append, List.nil_append, List.append_nil, List.getElem?_cons_zero, List.getElem?_cons_succ, List.set_cons_zero, List.set_cons_succ, Nat.add_sub_cancel, Nat.sub_self, Nat.sub_zero, Nat.reduceAdd, Nat.reduceSub, Nat.zero_add, if_true, if_false, Bool.false_eq_true, Bool.not_true, Bool.not_false, true_and, and_true, Bool.and_true, Bool.true_and]
            exact hnx3 _ _ ⟨rest2, _, rfl, fun t ht => hin t (List.mem_cons_of_mem _ ht), rfl⟩
end TC

set_option Elab.async false
set_option linter.all false
set_option maxRecDepth 100000
set_option maxHeartbeats 2000000
namespace TC
open PySem PySem.Spec PyProof.Rows L2
theorem kitC_mk {K : PySem.W.Frag} {S D : Addr} {b : Bool} (h2 : PySem.W.isClsIn K S = true) (h3 : PySem.W.typeIn K (.ref S) = some (.type "type")) (h4 : PySem.W.subIn K (.ref D) (.ref S) = some b) : PySem.W.kitCls K (.ref D) (.ref S) = some b := by
  have e2 : ((PySem.W.clsIn K S).isSome && PySem.W.typeIn K (.ref S) == some (.type "type")) = true := by
    have h2' : (PySem.W.clsIn K S).isSome = true := h2
    rw [h2', h3] <;> rfl
  show (if ((PySem.W.clsIn K S).isSome && PySem.W.typeIn K (.ref S) == some (.type "type")) = true then PySem.W.subIn K (.ref D) (.ref S) else none) = some b
  rw [if_pos e2]
  exact h4
theorem exm_mk {K : PySem.W.Frag} {S D : Addr} {b : Bool} (h1 : PySem.W.subIn K (.ref S) (.type "BaseException") = some true) (h2 : PySem.W.isClsIn K S = true) (h3 : PySem.W.typeIn K (.ref S) = some (.type "type")) (h4 : PySem.W.subIn K (.ref D) (.ref S) = some b) :
    PySem.W.exmOne K (.ref D) (.ref S) = some b := by
  have e1 : (PySem.W.subIn K (.ref S) (.type "BaseException") == some true) = true := by rw [h1] <;> rfl
  show (if (PySem.W.subIn K (.ref S) (.type "BaseException") == some true) = true then PySem.W.kitCls K (.ref D) (.ref S) else none) = some b
  rw [if_pos e1]
  exact kitC_mk h2 h3 h4
theorem kit_mk {K : PySem.W.Frag} {S D : Addr} {b : Bool} (h2 : PySem.W.isClsIn K S = true) (h3 : PySem.W.typeIn K (.ref S) = some (.type "type")) (h4 : PySem.W.subIn K (.ref D) (.ref S) = some b) (h5 : PySem.W.subIn K (.ref D) (.ref D) = some true) : PySem.W.kitOne K (.ref D) (.ref S) = some b := by
  show (if (Value.ref D == Value.ref S) = true then some true else PySem.W.kitCls K (.ref D) (.ref S)) = some b
  by_cases e : D = S
  · subst e
    rw [if_pos (beq_self_eq_true _), ← h4, h5]
  · rw [if_neg (fun h => e (by injection (eq_of_beq h)))]
    exact kitC_mk h2 h3 h4
theorem kitV_mk {K : PySem.W.Frag} {D : Addr} (h : PySem.W.subIn K (.ref D) (.type "ValueError") = some true) : PySem.W.kitOne K (.ref D) (.type "ValueError") = some true := by
  show (if (Value.ref D == Value.type "ValueError") = true then some true else if PySem.W.kitMeta "ValueError" = true then PySem.W.subIn K (.ref D) (.type "ValueError") else none) = some true
  have e : PySem.W.kitMeta "ValueError" = true := by decide +kernel
  rw [if_pos e, h]
  split <;> rfl
end TC

set_option Elab.async false
set_option linter.all false
set_option maxRecDepth 100000
set_option maxHeartbeats 4000000
namespace TC
namespace turncoats_k05_whole_lots_part_all_turns
open PySem PySem.Spec PyProof.Rows L2
def topS (i : Nat) : Stmt := PySem.Challenge.pw_turncoats_k05_whole_lots_part_all_turns.main.body.getD i (.Pass ⟨0, 0, 0, 0⟩)
abbrev s_is_number : Stmt := topS 8
abbrev N_is_number : List Str := ["thing"]
theorem sc_is_number : FnScope N_is_number ["thing"] (defScope s_is_number) := ⟨rfl, rfl, rfl, by decide +kernel, rfl, by decide +kernel, by decide +kernel⟩
abbrev s_size_of : Stmt := topS 9
abbrev N_size_of : List Str := ["thing", "part"]
theorem sc_size_of : FnScope N_size_of ["thing"] (defScope s_size_of) := ⟨rfl, rfl, rfl, by decide +kernel, rfl, by decide +kernel, by decide +kernel⟩
abbrev s_need_size : Stmt := topS 10
abbrev N_need_size : List Str := ["size"]
theorem sc_need_size : FnScope N_need_size ["size"] (defScope s_need_size) := ⟨rfl, rfl, rfl, by decide +kernel, rfl, by decide +kernel, by decide +kernel⟩
abbrev s_need_turn : Stmt := topS 11
abbrev N_need_turn : List Str := ["turn", "size"]
theorem sc_need_turn : FnScope N_need_turn ["turn"] (defScope s_need_turn) := ⟨rfl, rfl, rfl, by decide +kernel, rfl, by decide +kernel, by decide +kernel⟩
abbrev s_put : Stmt := topS 12
abbrev N_put : List Str := ["one", "other", "k"]
theorem sc_put : FnScope N_put ["one", "other"] (defScope s_put) := ⟨rfl, rfl, rfl, by decide +kernel, rfl, by decide +kernel, by decide +kernel⟩
abbrev s_back : Stmt := topS 13
abbrev N_back : List Str := ["turn", "k"]
theorem sc_back : FnScope N_back ["turn"] (defScope s_back) := ⟨rfl, rfl, rfl, by decide +kernel, rfl, by decide +kernel, by decide +kernel⟩
abbrev s_plain : Stmt := topS 14
abbrev N_plain : List Str := ["size"]
theorem sc_plain : FnScope N_plain ["size"] (defScope s_plain) := ⟨rfl, rfl, rfl, by decide +kernel, rfl, by decide +kernel, by decide +kernel⟩
abbrev s_need_group : Stmt := topS 16
abbrev N_need_group : List Str := ["group", "sizes", "size"]
theorem sc_need_group : FnScope N_need_group ["group", "sizes"] (defScope s_need_group) := ⟨rfl, rfl, rfl, by decide +kernel, rfl, by decide +kernel, by decide +kernel⟩
abbrev s_letters_of : Stmt := topS 17
abbrev N_letters_of : List Str := ["turns", "letters", "number", "turn"]
theorem sc_letters_of : FnScope N_letters_of ["turns"] (defScope s_letters_of) := ⟨rfl, rfl, rfl, by decide +kernel, rfl, by decide +kernel, by decide +kernel⟩
abbrev s_next_row : Stmt := topS 18
abbrev N_next_row : List Str := ["row", "words", "letters", "found", "turn", "one", "letter", "behind"]
theorem sc_next_row : FnScope N_next_row ["row", "words", "letters"] (defScope s_next_row) := ⟨rfl, rfl, rfl, by decide +kernel, rfl, by decide +kernel, by decide +kernel⟩
abbrev s_words_of : Stmt := topS 19
abbrev N_words_of : List Str := ["turns", "size", "letters", "words", "row"]
theorem sc_words_of : FnScope N_words_of ["turns", "size"] (defScope s_words_of) := ⟨rfl, rfl, rfl, by decide +kernel, rfl, by decide +kernel, by decide +kernel⟩
abbrev s_few_and_all : Stmt := topS 20
abbrev N_few_and_all : List Str := ["turns", "size", "few", "group", "turn"]
theorem sc_few_and_all : FnScope N_few_and_all ["turns", "size"] (defScope s_few_and_all) := ⟨rfl, rfl, rfl, by decide +kernel, rfl, by decide +kernel, by decide +kernel⟩
abbrev s_is_group : Stmt := topS 21
abbrev N_is_group : List Str := ["thing", "size", "one"]
theorem sc_is_group : FnScope N_is_group ["thing", "size"] (defScope s_is_group) := ⟨rfl, rfl, rfl, by decide +kernel, rfl, by decide +kernel, by decide +kernel⟩
abbrev s_lot_of : Stmt := topS 22
abbrev N_lot_of : List Str := ["turn", "group", "one"]
theorem sc_lot_of : FnScope N_lot_of ["turn", "group"] (defScope s_lot_of) := ⟨rfl, rfl, rfl, by decide +kernel, rfl, by decide +kernel, by decide +kernel⟩
abbrev s_lot : Stmt := topS 23
abbrev N_lot : List Str := ["turn", "group", "size"]
theorem sc_lot : FnScope N_lot ["turn", "group"] (defScope s_lot) := ⟨rfl, rfl, rfl, by decide +kernel, rfl, by decide +kernel, by decide +kernel⟩
abbrev s_lots : Stmt := topS 24
abbrev N_lots : List Str := ["group", "size", "found", "known", "turn", "row", "one"]
theorem sc_lots : FnScope N_lots ["group", "size"] (defScope s_lots) := ⟨rfl, rfl, rfl, by decide +kernel, rfl, by decide +kernel, by decide +kernel⟩
abbrev s_law_state : Stmt := topS 26
abbrev N_law_state : List Str := ["script", "cell"]
theorem sc_law_state : FnScope N_law_state ["script"] (defScope s_law_state) := ⟨rfl, rfl, rfl, by decide +kernel, rfl, by decide +kernel, by decide +kernel⟩
abbrev s_law_draw : Stmt := topS 27
abbrev N_law_draw : List Str := ["state", "many", "cells", "at", "cell"]
theorem sc_law_draw : FnScope N_law_draw ["state", "many"] (defScope s_law_draw) := ⟨rfl, rfl, rfl, by decide +kernel, rfl, by decide +kernel, by decide +kernel⟩
abbrev s_law_pick : Stmt := topS 28
abbrev N_law_pick : List Str := ["state", "some"]
theorem sc_law_pick : FnScope N_law_pick ["state", "some"] (defScope s_law_pick) := ⟨rfl, rfl, rfl, by decide +kernel, rfl, by decide +kernel, by decide +kernel⟩
abbrev s_law_mixed : Stmt := topS 29
abbrev N_law_mixed : List Str := ["state", "some", "left", "rows"]
theorem sc_law_mixed : FnScope N_law_mixed ["state", "some"] (defScope s_law_mixed) := ⟨rfl, rfl, rfl, by decide +kernel, rfl, by decide +kernel, by decide +kernel⟩
abbrev s_law_a_turn : Stmt := topS 30
abbrev N_law_a_turn : List Str := ["state", "size", "way", "at"]
theorem sc_law_a_turn : FnScope N_law_a_turn ["state", "size"] (defScope s_law_a_turn) := ⟨rfl, rfl, rfl, by decide +kernel, rfl, by decide +kernel, by decide +kernel⟩
abbrev s_law_into : Stmt := topS 31
abbrev N_law_into : List Str := ["one", "other", "spot"]
theorem sc_law_into : FnScope N_law_into ["one", "other"] (defScope s_law_into) := ⟨rfl, rfl, rfl, by decide +kernel, rfl, by decide +kernel, by decide +kernel⟩
abbrev s_law_undone : Stmt := topS 32
abbrev N_law_undone : List Str := ["turn", "number"]
theorem sc_law_undone : FnScope N_law_undone ["turn"] (defScope s_law_undone) := ⟨rfl, rfl, rfl, by decide +kernel, rfl, by decide +kernel, by decide +kernel⟩
abbrev s_law_closed : Stmt := topS 33
abbrev N_law_closed : List Str := ["turns", "size", "had", "fresh", "later", "one", "turn", "together"]
theorem sc_law_closed : FnScope N_law_closed ["turns", "size"] (defScope s_law_closed) := ⟨rfl, rfl, rfl, by decide +kernel, rfl, by decide +kernel, by decide +kernel⟩
abbrev s_law_all : Stmt := topS 34
abbrev N_law_all : List Str := ["size"]
theorem sc_law_all : FnScope N_law_all ["size"] (defScope s_law_all) := ⟨rfl, rfl, rfl, by decide +kernel, rfl, by decide +kernel, by decide +kernel⟩
abbrev s_law_done : Stmt := topS 35
abbrev N_law_done : List Str := ["way", "one", "other"]
theorem sc_law_done : FnScope N_law_done ["way", "one", "other"] (defScope s_law_done) := ⟨rfl, rfl, rfl, by decide +kernel, rfl, by decide +kernel, by decide +kernel⟩
abbrev s_law_tried : Stmt := topS 36
abbrev N_law_tried : List Str := ["way", "one", "other", "error", "e", "sorts"]
theorem sc_law_tried : FnScope N_law_tried ["way", "one", "other"] (defScope s_law_tried) := ⟨rfl, rfl, rfl, by decide +kernel, rfl, by decide +kernel, by decide +kernel⟩
abbrev s_law_refused : Stmt := topS 37
abbrev N_law_refused : List Str := ["state", "turns", "size", "odd", "none", "strange", "far", "distant"]
theorem sc_law_refused : FnScope N_law_refused ["state", "turns", "size"] (defScope s_law_refused) := ⟨rfl, rfl, rfl, by decide +kernel, rfl, by decide +kernel, by decide +kernel⟩
abbrev s_law_places : Stmt := topS 38
abbrev N_law_places : List Str := ["found", "table", "at", "some", "turn"]
theorem sc_law_places : FnScope N_law_places ["found"] (defScope s_law_places) := ⟨rfl, rfl, rfl, by decide +kernel, rfl, by decide +kernel, by decide +kernel⟩
abbrev s_law : Stmt := topS 39
abbrev N_law : List Str := ["script", "state", "turn", "size", "turns", "found", "table", "k", "more", "one", "other", "some"]
theorem sc_law : FnScope N_law ["script"] (defScope s_law) := ⟨rfl, rfl, rfl, by decide +kernel, rfl, by decide +kernel, by decide +kernel⟩
structure Fns where
  f_is_number : Addr
  f_size_of : Addr
  f_need_size : Addr
  f_need_turn : Addr
  f_put : Addr
  f_back : Addr
  f_plain : Addr
  f_need_group : Addr
  f_letters_of : Addr
  f_next_row : Addr
  f_words_of : Addr
  f_few_and_all : Addr
  f_is_group : Addr
  f_lot_of : Addr
  f_lot : Addr
  f_lots : Addr
  f_law_state : Addr
  f_law_draw : Addr
  f_law_pick : Addr
  f_law_mixed : Addr
  f_law_a_turn : Addr
  f_law_into : Addr
  f_law_undone : Addr
  f_law_closed : Addr
  f_law_all : Addr
  f_law_done : Addr
  f_law_tried : Addr
  f_law_refused : Addr
  f_law_places : Addr
  f_law : Addr
  a_SIZES : Addr
structure Txt (K : PySem.W.Frag) (mg : Str → Option Value) (A : Adr) (F : Fns) : Prop where
  b_ValueError : mg "ValueError" = none
  b_abs : mg "abs" = none
  b_all : mg "all" = none
  b_bool : mg "bool" = none
  b_enumerate : mg "enumerate" = none
  b_int : mg "int" = none
  b_isinstance : mg "isinstance" = none
  b_len : mg "len" = none
  b_list : mg "list" = none
  b_range : mg "range" = none
  b_sorted : mg "sorted" = none
  b_tuple : mg "tuple" = none
  t_permutations : mg "permutations" = some (.type "itertools.permutations")
  g_CoatError : mg "CoatError" = some (.ref A.c_CoatError)
  g_NoSize : mg "NoSize" = some (.ref A.c_NoSize)
  x_NoSize : PySem.W.excIn K A.c_NoSize [.type "ValueError", .type "Exception", .type "BaseException", .type "object"] "ValueError.__new__" = true
  k_NoSize : PySem.W.keepIn K (.ref A.c_NoSize) = true
  s_NoSize : PySem.W.subIn K (.ref A.c_NoSize) (.type "BaseException") = some true
  t_NoSize : PySem.W.typeIn K (.ref A.c_NoSize) = some (.type "type")
  g_NoTurn : mg "NoTurn" = some (.ref A.c_NoTurn)
  x_NoTurn : PySem.W.excIn K A.c_NoTurn [.type "ValueError", .type "Exception", .type "BaseException", .type "object"] "ValueError.__new__" = true
  k_NoTurn : PySem.W.keepIn K (.ref A.c_NoTurn) = true
  s_NoTurn : PySem.W.subIn K (.ref A.c_NoTurn) (.type "BaseException") = some true
  t_NoTurn : PySem.W.typeIn K (.ref A.c_NoTurn) = some (.type "type")
  g_NoGroup : mg "NoGroup" = some (.ref A.c_NoGroup)
  x_NoGroup : PySem.W.excIn K A.c_NoGroup [.type "ValueError", .type "Exception", .type "BaseException", .type "object"] "ValueError.__new__" = true
  k_NoGroup : PySem.W.keepIn K (.ref A.c_NoGroup) = true
  s_NoGroup : PySem.W.subIn K (.ref A.c_NoGroup) (.type "BaseException") = some true
  t_NoGroup : PySem.W.typeIn K (.ref A.c_NoGroup) = some (.type "type")
  g_SIZES : mg "SIZES" = some (.ref F.a_SIZES)
  d_SIZES : ∀ S α G, Is K S α G d_SIZES (.ref F.a_SIZES)
  g_is_number : mg "is_number" = some (.ref F.f_is_number)
  k_is_number : PySem.W.keepIn K (.ref F.f_is_number) = true
  g_size_of : mg "size_of" = some (.ref F.f_size_of)
  k_size_of : PySem.W.keepIn K (.ref F.f_size_of) = true
  g_need_size : mg "need_size" = some (.ref F.f_need_size)
  k_need_size : PySem.W.keepIn K (.ref F.f_need_size) = true
  g_need_turn : mg "need_turn" = some (.ref F.f_need_turn)
  k_need_turn : PySem.W.keepIn K (.ref F.f_need_turn) = true
  g_put : mg "put" = some (.ref F.f_put)
  k_put : PySem.W.keepIn K (.ref F.f_put) = true
  g_back : mg "back" = some (.ref F.f_back)
  k_back : PySem.W.keepIn K (.ref F.f_back) = true
  g_plain : mg "plain" = some (.ref F.f_plain)
  k_plain : PySem.W.keepIn K (.ref F.f_plain) = true
  g_need_group : mg "need_group" = some (.ref F.f_need_group)
  k_need_group : PySem.W.keepIn K (.ref F.f_need_group) = true
  g_letters_of : mg "letters_of" = some (.ref F.f_letters_of)
  k_letters_of : PySem.W.keepIn K (.ref F.f_letters_of) = true
  g_next_row : mg "next_row" = some (.ref F.f_next_row)
  k_next_row : PySem.W.keepIn K (.ref F.f_next_row) = true
  g_words_of : mg "words_of" = some (.ref F.f_words_of)
  k_words_of : PySem.W.keepIn K (.ref F.f_words_of) = true
  g_few_and_all : mg "few_and_all" = some (.ref F.f_few_and_all)
  k_few_and_all : PySem.W.keepIn K (.ref F.f_few_and_all) = true
  g_is_group : mg "is_group" = some (.ref F.f_is_group)
  k_is_group : PySem.W.keepIn K (.ref F.f_is_group) = true
  g_lot_of : mg "lot_of" = some (.ref F.f_lot_of)
  k_lot_of : PySem.W.keepIn K (.ref F.f_lot_of) = true
  g_lot : mg "lot" = some (.ref F.f_lot)
  k_lot : PySem.W.keepIn K (.ref F.f_lot) = true
  g_lots : mg "lots" = some (.ref F.f_lots)
  k_lots : PySem.W.keepIn K (.ref F.f_lots) = true
  g__law_state : mg "_law_state" = some (.ref F.f_law_state)
  k__law_state : PySem.W.keepIn K (.ref F.f_law_state) = true
  g__law_draw : mg "_law_draw" = some (.ref F.f_law_draw)
  k__law_draw : PySem.W.keepIn K (.ref F.f_law_draw) = true
  g__law_pick : mg "_law_pick" = some (.ref F.f_law_pick)
  k__law_pick : PySem.W.keepIn K (.ref F.f_law_pick) = true
  g__law_mixed : mg "_law_mixed" = some (.ref F.f_law_mixed)
  k__law_mixed : PySem.W.keepIn K (.ref F.f_law_mixed) = true
  g__law_a_turn : mg "_law_a_turn" = some (.ref F.f_law_a_turn)
  k__law_a_turn : PySem.W.keepIn K (.ref F.f_law_a_turn) = true
  g__law_into : mg "_law_into" = some (.ref F.f_law_into)
  k__law_into : PySem.W.keepIn K (.ref F.f_law_into) = true
  g__law_undone : mg "_law_undone" = some (.ref F.f_law_undone)
  k__law_undone : PySem.W.keepIn K (.ref F.f_law_undone) = true
  g__law_closed : mg "_law_closed" = some (.ref F.f_law_closed)
  k__law_closed : PySem.W.keepIn K (.ref F.f_law_closed) = true
  g__law_all : mg "_law_all" = some (.ref F.f_law_all)
  k__law_all : PySem.W.keepIn K (.ref F.f_law_all) = true
  g__law_done : mg "_law_done" = some (.ref F.f_law_done)
  k__law_done : PySem.W.keepIn K (.ref F.f_law_done) = true
  g__law_tried : mg "_law_tried" = some (.ref F.f_law_tried)
  k__law_tried : PySem.W.keepIn K (.ref F.f_law_tried) = true
  g__law_refused : mg "_law_refused" = some (.ref F.f_law_refused)
  k__law_refused : PySem.W.keepIn K (.ref F.f_law_refused) = true
  g__law_places : mg "_law_places" = some (.ref F.f_law_places)
  k__law_places : PySem.W.keepIn K (.ref F.f_law_places) = true
  g_law : mg "law" = some (.ref F.f_law)
  k_law : PySem.W.keepIn K (.ref F.f_law) = true
section
variable {P : Program} {w : World} {K : PySem.W.Frag} {mg : Str → Option Value} {base : Heap} {A : Adr} {F : Fns}
theorem ok_is_number (T : Txt K mg A F) {fd : FuncData} (Dd : Fun K "is_number" "is_number" s_is_number F.f_is_number fd)
    (pure : ∀ (ds : List TC.D) (R : TC.D → Prop) (Z : Addr → Prop), ds.length = 1 → sp_is_number A ds R Z → w_is_number K A (gam0 1 ds) [] ⟨fun _ _ => R .non, fun d _ => d.pure = true ∧ R d, fun _ _ => False, fun _ _ => False, fun cl _ _ => Z cl⟩) :
    FnOk P w K mg base (L2.CX P w) 1 F.f_is_number fd ["thing"] (toSp K 1 (sp_is_number A)) :=
  fn_ok (wb := w_is_number K A) Dd sc_is_number rfl (fun S N0 H0 cdv A0 outer s H E hr =>
    (dss_cons (ds_ret (de_and (de_cb sn_isi (pe_callB call_isAny (by rfl) T.b_isinstance (by decide +kernel) (da_cons (de_var 0 (pv 0)) (da_cons (de_c (pe_bltn (v := .ty "int") (u := .type "int") (by rfl) T.b_int (by decide +kernel) rfl) (fun _ _ => .ty _)) da_nil)))) (de_one (de_not (de_cb sn_isi (pe_callB call_isAny (by rfl) T.b_isinstance (by decide +kernel) (da_cons (de_var 0 (pv 0)) (da_cons (de_c (pe_bltn (v := .ty "bool") (u := .type "bool") (by rfl) T.b_bool (by decide +kernel) rfl) (fun _ _ => .ty _)) da_nil))))))))
  dss_nil)) pure
theorem ok_size_of (T : Txt K mg A F) {fd : FuncData} (Dd : Fun K "size_of" "size_of" s_size_of F.f_size_of fd) {d_is_number : FuncData} (G_is_number : FnOk P w K mg base (L2.CX P w) 1 F.f_is_number d_is_number ["thing"] (toSp K 1 (sp_is_number A))) (B_is_number : Binds K d_is_number ["thing"] [])
    (pure : ∀ (ds : List TC.D) (R : TC.D → Prop) (Z : Addr → Prop), ds.length = 1 → sp_size_of A ds R Z → w_size_of K A (gam0 2 ds) [] ⟨fun _ _ => R .non, fun d _ => d.pure = true ∧ R d, fun _ _ => False, fun _ _ => False, fun cl _ _ => Z cl⟩) :
    FnOk P w K mg base (L2.CX P w) 2 F.f_size_of fd ["thing"] (toSp K 1 (sp_size_of A)) :=
  fn_ok (wb := w_size_of K A) Dd sc_size_of rfl (fun S N0 H0 cdv A0 outer s H E hr =>
    (dss_cons (ds_if (dw_pt (dw_or (dt_not (dt_val (de_cb sn_isi (pe_callB call_isAny (by rfl) T.b_isinstance (by decide +kernel) (da_cons (de_var 0 (pv 0)) (da_cons (de_c (pe_bltn (v := .ty "tuple") (u := .type "tuple") (by rfl) T.b_tuple (by decide +kernel) rfl) (fun _ _ => .ty _)) da_nil)))))) (dw_or1 (dt_notin rfl (de_cb sn_len (pe_callB call_len_seq (by rfl) T.b_len (by decide +kernel) (da_cons (de_var 0 (pv 0)) da_nil))) (de_c (pe_glob (v := .ref F.a_SIZES) rfl T.g_SIZES rfl) (fun _ _ => T.d_SIZES _ _ _)) (by first | rfl | exact nobehind _ (by decide) (by decide))))))
  (dss_cons (ds_ret de_int)
  dss_nil)
  dss_nil)
  (dss_cons (ds_if (dt_not (dt_val (de_cb sn_all (pe_callB (cr_all rfl) (by rfl) T.b_all (by decide +kernel) (da_cons (de_lc (own := [("part", 1)]) rfl sc_size_of.nd (di_val rfl (de_var 0 (pv 0))) (blkOk_by (own := [("part", 1)]) (N := N_size_of) (sc := defScope s_size_of) (by decide +kernel)) own_name (fun _ _ _ _ _ => pg_name (i := 1) sc_size_of.nd rfl (Or.inl rfl)) (fun _ _ _ _ _ => dts_nil) (fun _ _ _ _ _ => (de_call rfl takes0 G_is_number (hr.mono (by decide)) rfl T.g_is_number T.k_is_number B_is_number (da_cons (de_var 1 (pv 1)) da_nil)))) da_nil)))))
  (dss_cons (ds_ret de_int)
  dss_nil)
  dss_nil)
  (dss_cons (ds_ret (de_ite (dt_eq rfl hr.units (de_cb sn_sorted (pe_callB (CallR.or cr_sorted cr_sortedTup) (by rfl) T.b_sorted (by decide +kernel) (da_cons (de_var 0 (pv 0)) da_nil))) (de_lstRg rfl rfl T.b_list (rgA1 (prg_1 rfl T.b_range (de_cb sn_len (pe_callB call_len_seq (by rfl) T.b_len (by decide +kernel) (da_cons (de_var 0 (pv 0)) da_nil))))))) (de_cb sn_len (pe_callB call_len_seq (by rfl) T.b_len (by decide +kernel) (da_cons (de_var 0 (pv 0)) da_nil))) de_int))
  dss_nil)))) pure
theorem ok_need_size (T : Txt K mg A F) {fd : FuncData} (Dd : Fun K "need_size" "need_size" s_need_size F.f_need_size fd) {d_is_number : FuncData} (G_is_number : FnOk P w K mg base (L2.CX P w) 1 F.f_is_number d_is_number ["thing"] (toSp K 1 (sp_is_number A))) (B_is_number : Binds K d_is_number ["thing"] [])
    (pure : ∀ (ds : List TC.D) (R : TC.D → Prop) (Z : Addr → Prop), ds.length = 1 → sp_need_size A ds R Z → w_need_size K A (gam0 1 ds) [] ⟨fun _ _ => R .non, fun d _ => d.pure = true ∧ R d, fun _ _ => False, fun _ _ => False, fun cl _ _ => Z cl⟩) :
    FnOk P w K mg base (L2.CX P w) 2 F.f_need_size fd ["size"] (toSp K 1 (sp_need_size A)) :=
  fn_ok (wb := w_need_size K A) Dd sc_need_size rfl (fun S N0 H0 cdv A0 outer s H E hr =>
    (dss_cons (ds_if (dw_pt (dw_or (dt_not (dt_val (de_call rfl (takes_of rfl rfl rfl rfl) G_is_number (hr.mono (by decide)) rfl T.g_is_number T.k_is_number B_is_number (da_cons (de_var 0 (pv 0)) da_nil)))) (dw_or1 (dt_notin rfl (de_var 0 (pv 0)) (de_c (pe_glob (v := .ref F.a_SIZES) rfl T.g_SIZES rfl) (fun _ _ => T.d_SIZES _ _ _)) (by first | rfl | exact nobehind _ (by decide) (by decide))))))
  (dss_cons (ds_raise (ps_raise rfl (takes_of rfl rfl rfl rfl) (pmk_own PySem.F.excBase_ValueError T.x_NoSize T.g_NoSize T.k_NoSize (raises_own T.s_NoSize T.t_NoSize) (by rfl))))
  dss_nil)
  dss_nil)
  dss_nil)) pure
theorem ok_need_turn (T : Txt K mg A F) {fd : FuncData} (Dd : Fun K "need_turn" "need_turn" s_need_turn F.f_need_turn fd) {d_size_of : FuncData} (G_size_of : FnOk P w K mg base (L2.CX P w) 2 F.f_size_of d_size_of ["thing"] (toSp K 1 (sp_size_of A))) (B_size_of : Binds K d_size_of ["thing"] [])
    (pure : ∀ (ds : List TC.D) (R : TC.D → Prop) (Z : Addr → Prop), ds.length = 1 → sp_need_turn A ds R Z → w_need_turn K A (gam0 2 ds) [] ⟨fun _ _ => R .non, fun d _ => d.pure = true ∧ R d, fun _ _ => False, fun _ _ => False, fun cl _ _ => Z cl⟩) :
    FnOk P w K mg base (L2.CX P w) 3 F.f_need_turn fd ["turn"] (toSp K 1 (sp_need_turn A)) :=
  fn_ok (wb := w_need_turn K A) Dd sc_need_turn rfl (fun S N0 H0 cdv A0 outer s H E hr =>
    (dss_cons (ds_asg (ps_set (i := 1) sc_need_turn.nd rfl (Or.inl rfl) (de_call rfl (takes_of rfl rfl rfl rfl) G_size_of (hr.mono (by decide)) rfl T.g_size_of T.k_size_of B_size_of (da_cons (de_var 0 (pv 0)) da_nil))))
  (dss_cons (ds_if (dt_eq rfl hr.units (de_var 1 (pv 1)) de_int)
  (dss_cons (ds_raise (ps_raise rfl (takes_of rfl rfl rfl rfl) (pmk_own PySem.F.excBase_ValueError T.x_NoTurn T.g_NoTurn T.k_NoTurn (raises_own T.s_NoTurn T.t_NoTurn) (by rfl))))
  dss_nil)
  dss_nil)
  (dss_cons (ds_ret (de_var 1 (pv 1)))
  dss_nil)))) pure
theorem ok_put (T : Txt K mg A F) {fd : FuncData} (Dd : Fun K "put" "put" s_put F.f_put fd)
    (pure : ∀ (ds : List TC.D) (R : TC.D → Prop) (Z : Addr → Prop), ds.length = 2 → sp_put A ds R Z → w_put K A (gam0 3 ds) [] ⟨fun _ _ => R .non, fun d _ => d.pure = true ∧ R d, fun _ _ => False, fun _ _ => False, fun cl _ _ => Z cl⟩) :
    FnOk P w K mg base (L2.CX P w) 1 F.f_put fd ["one", "other"] (toSp K 2 (sp_put A)) :=
  fn_ok (wb := w_put K A) Dd sc_put rfl (fun S N0 H0 cdv A0 outer s H E hr =>
    (dss_cons (ds_ret (de_cb sn_tupOf (pe_callTy call_tupOf (by rfl) T.b_tuple (by decide +kernel) (da_cons (de_lc (own := [("k", 2)]) rfl sc_put.nd (di_val rfl (de_var 1 (pv 1))) (blkOk_by (own := [("k", 2)]) (N := N_put) (sc := defScope s_put) (by decide +kernel)) own_name (fun _ _ _ _ _ => pg_name (i := 2) sc_put.nd rfl (Or.inl rfl)) (fun _ _ _ _ _ => dts_nil) (fun _ _ _ _ _ => (de_item rfl (de_var 0 (pv 0)) (de_var 2 (pv 2))))) da_nil))))
  dss_nil)) pure
theorem ok_back (T : Txt K mg A F) {fd : FuncData} (Dd : Fun K "back" "back" s_back F.f_back fd)
    (pure : ∀ (ds : List TC.D) (R : TC.D → Prop) (Z : Addr → Prop), ds.length = 1 → sp_back A ds R Z → w_back K A (gam0 2 ds) [] ⟨fun _ _ => R .non, fun d _ => d.pure = true ∧ R d, fun _ _ => False, fun _ _ => False, fun cl _ _ => Z cl⟩) :
    FnOk P w K mg base (L2.CX P w) 1 F.f_back fd ["turn"] (toSp K 1 (sp_back A)) :=
  fn_ok (wb := w_back K A) Dd sc_back rfl (fun S N0 H0 cdv A0 outer s H E hr =>
    (dss_cons (ds_ret (de_cb sn_tupOf (pe_callTy call_tupOf (by rfl) T.b_tuple (by decide +kernel) (da_cons (de_lc (own := [("k", 1)]) rfl sc_back.nd (di_rng1 rfl T.b_range (da_cons (de_cb sn_len (pe_callB call_len_seq (by rfl) T.b_len (by decide +kernel) (da_cons (de_var 0 (pv 0)) da_nil))) da_nil)) (blkOk_by (own := [("k", 1)]) (N := N_back) (sc := defScope s_back) (by decide +kernel)) own_name (fun _ _ _ _ _ => pg_name (i := 1) sc_back.nd rfl (Or.inl rfl)) (fun _ _ _ _ _ => dts_nil) (fun _ _ _ _ _ => (de_methT rfl sn_tidx (pe_bt PySem.F.plainAttrs_tuple PySem.F.slot_tuple_index PySem.F.type_tuple_index mt_tidx (de_var 0 (pv 0)) (da_cons (de_var 1 (pv 1)) da_nil))))) da_nil))))
  dss_nil)) pure
theorem ok_plain (T : Txt K mg A F) {fd : FuncData} (Dd : Fun K "plain" "plain" s_plain F.f_plain fd) {d_need_size : FuncData} (G_need_size : FnOk P w K mg base (L2.CX P w) 2 F.f_need_size d_need_size ["size"] (toSp K 1 (sp_need_size A))) (B_need_size : Binds K d_need_size ["size"] [])
    (pure : ∀ (ds : List TC.D) (R : TC.D → Prop) (Z : Addr → Prop), ds.length = 1 → sp_plain A ds R Z → w_plain K A (gam0 1 ds) [] ⟨fun _ _ => R .non, fun d _ => d.pure = true ∧ R d, fun _ _ => False, fun _ _ => False, fun cl _ _ => Z cl⟩) :
    FnOk P w K mg base (L2.CX P w) 3 F.f_plain fd ["size"] (toSp K 1 (sp_plain A)) :=
  fn_ok (wb := w_plain K A) Dd sc_plain rfl (fun S N0 H0 cdv A0 outer s H E hr =>
    (dss_cons (ds_expr (ps_expr (de_call rfl (takes_of rfl rfl rfl rfl) G_need_size (hr.mono (by decide)) rfl T.g_need_size T.k_need_size B_need_size (da_cons (de_var 0 (pv 0)) da_nil))))
  (dss_cons (ds_ret (de_tupRg rfl rfl T.b_tuple (rgA1 (prg_1 rfl T.b_range (de_var 0 (pv 0))))))
  dss_nil))) pure
theorem ok_need_group (T : Txt K mg A F) {fd : FuncData} (Dd : Fun K "need_group" "need_group" s_need_group F.f_need_group fd) {d_is_group : FuncData} (G_is_group : FnOk P w K mg base (L2.CX P w) 6 F.f_is_group d_is_group ["thing", "size"] (toSp K 2 (sp_is_group A))) (B_is_group : Binds K d_is_group ["thing", "size"] [])
    (pure : ∀ (ds : List TC.D) (R : TC.D → Prop) (Z : Addr → Prop), ds.length = 2 → s5_need_group A ds R Z → w_need_group K A (gam0 3 ds) [] ⟨fun _ _ => R .non, fun d _ => d.pure = true ∧ R d, fun _ _ => False, fun _ _ => False, fun cl _ _ => Z cl⟩) :
    FnOk P w K mg base (L2.CX P w) 7 F.f_need_group fd ["group", "sizes"] (toSp K 2 (s5_need_group A)) :=
  fn_ok (wb := w_need_group K A) Dd sc_need_group rfl (fun S N0 H0 cdv A0 outer s H E hr =>
    (dss_cons (ds_for (passes_of rfl) rfl (di_val rfl (de_var 1 (pv 1))) (dg_name (pg_name (i := 2) sc_need_group.nd rfl (Or.inl rfl)))
  (dss_cons (ds_if (dt_val (de_call rfl (takes_of rfl rfl rfl rfl) G_is_group (hr.mono (by decide)) rfl T.g_is_group T.k_is_group B_is_group (da_cons (de_var 0 (pv 0)) (da_cons (de_var 2 (pv 2)) da_nil))))
  (dss_cons (ds_ret (de_var 2 (pv 2)))
  dss_nil)
  dss_nil)
  dss_nil))
  (dss_cons (ds_raise (ps_raise rfl (takes_of rfl rfl rfl rfl) (pmk_own PySem.F.excBase_ValueError T.x_NoGroup T.g_NoGroup T.k_NoGroup (raises_own T.s_NoGroup T.t_NoGroup) (by rfl))))
  dss_nil))) pure
theorem ok_letters_of (T : Txt K mg A F) {fd : FuncData} (Dd : Fun K "letters_of" "letters_of" s_letters_of F.f_letters_of fd) {d_back : FuncData} (G_back : FnOk P w K mg base (L2.CX P w) 1 F.f_back d_back ["turn"] (toSp K 1 (sp_back A))) (B_back : Binds K d_back ["turn"] [])
    (pure : ∀ (ds : List TC.D) (μ : Mem) (R : TC.D → Mem → Prop) (Z : Addr → Mem → Prop), ds.length = 1 → s6_letters_of A ds μ R Z → w_letters_of K A (gam0 4 ds) μ ⟨fun _ μ1 => R .non μ1, R, fun _ _ => False, fun _ _ => False, fun cl _ μ1 => Z cl μ1⟩) :
    FnOk P w K mg base (L2.CX P w) 2 F.f_letters_of fd ["turns"] (toSpM K 1 (s6_letters_of A)) :=
  fn_okM (wb := w_letters_of K A) Dd sc_letters_of rfl (fun S N0 H0 cdv A0 outer s H E hr =>
    (dss_cons (ds_asg (ps_set (i := 1) sc_letters_of.nd rfl (Or.inl rfl) de_dictM))
  (dss_cons (ds_or (ds_forEnM rfl (passes_of rfl) rfl (by rfl) T.b_enumerate (da_cons (de_var 0 (pv 0)) da_nil) (pg_tup rfl (pgs_cons (pg_name (i := 2) sc_letters_of.nd rfl (Or.inl rfl)) (pgs_cons (pg_name (i := 3) sc_letters_of.nd rfl (Or.inl rfl)) pgs_nil)))
  (dss_cons (ds_expr (ps_expr (de_setd rfl (ru1 hr) (de_var 1 (pv 1)) (de_call rfl (takes_of rfl rfl rfl rfl) G_back (hr.mono (by decide)) rfl T.g_back T.k_back B_back (da_cons (de_var 3 (pv 3)) da_nil)) (de_tup (da_cons (de_var 2 (pv 2)) (da_cons (de_neg de_int) da_nil))) ⟨rfl, rfl, rfl, rfl⟩)))
  (dss_cons (ds_expr (ps_expr (de_setd rfl (ru1 hr) (de_var 1 (pv 1)) (de_var 3 (pv 3)) (de_tup (da_cons (de_var 2 (pv 2)) (da_cons de_int da_nil))) ⟨rfl, rfl, rfl, rfl⟩)))
  dss_nil)))
  (ds_forP rfl (passes_of rfl) rfl (di_enumS rfl (by rfl) T.b_enumerate (da_cons (de_var 0 (pv 0)) da_nil)) (pg_tup rfl (pgs_cons (pg_name (i := 2) sc_letters_of.nd rfl (Or.inl rfl)) (pgs_cons (pg_name (i := 3) sc_letters_of.nd rfl (Or.inl rfl)) pgs_nil)))
  (dss_cons (ds_expr (ps_expr (de_setd rfl (ru1 hr) (de_var 1 (pv 1)) (de_call rfl (takes_of rfl rfl rfl rfl) G_back (hr.mono (by decide)) rfl T.g_back T.k_back B_back (da_cons (de_var 3 (pv 3)) da_nil)) (de_tup (da_cons (de_var 2 (pv 2)) (da_cons (de_neg de_int) da_nil))) ⟨rfl, rfl, rfl, rfl⟩)))
  (dss_cons (ds_expr (ps_expr (de_setd rfl (ru1 hr) (de_var 1 (pv 1)) (de_var 3 (pv 3)) (de_tup (da_cons (de_var 2 (pv 2)) (da_cons de_int da_nil))) ⟨rfl, rfl, rfl, rfl⟩)))
  dss_nil))))
  (dss_cons (ds_ret (de_frzD (de_var 1 (pv 1))))
  dss_nil)))) pure
theorem ok_next_row (T : Txt K mg A F) {fd : FuncData} (Dd : Fun K "next_row" "next_row" s_next_row F.f_next_row fd) {d_put : FuncData} (G_put : FnOk P w K mg base (L2.CX P w) 1 F.f_put d_put ["one", "other"] (toSp K 2 (sp_put A))) (B_put : Binds K d_put ["one", "other"] [])
    (pure : ∀ (ds : List TC.D) (μ : Mem) (R : TC.D → Mem → Prop) (Z : Addr → Mem → Prop), ds.length = 3 → sm_next_row A ds μ R Z → w_next_row K A (gam0 8 ds) μ ⟨fun _ μ1 => R .non μ1, R, fun _ _ => False, fun _ _ => False, fun cl _ μ1 => Z cl μ1⟩) :
    FnOk P w K mg base (L2.CX P w) 2 F.f_next_row fd ["row", "words", "letters"] (toSpM K 3 (sm_next_row A)) :=
  fn_okM (wb := w_next_row K A) Dd sc_next_row rfl (fun S N0 H0 cdv A0 outer s H E hr =>
    (dss_cons (ds_asg (ps_set (i := 3) sc_next_row.nd rfl (Or.inl rfl) (de_lstM da_nil)))
  (dss_cons (ds_for (passes_of rfl) rfl (di_val rfl (de_var 0 (pv 0))) (dg_name (pg_name (i := 4) sc_next_row.nd rfl (Or.inl rfl)))
  (dss_cons (ds_forP rfl (passes_of rfl) rfl (di_items (de_var 2 (pv 2))) (pg_tup rfl (pgs_cons (pg_name (i := 5) sc_next_row.nd rfl (Or.inl rfl)) (pgs_cons (pg_name (i := 6) sc_next_row.nd rfl (Or.inl rfl)) pgs_nil)))
  (dss_cons (ds_asg (ps_set (i := 7) sc_next_row.nd rfl (Or.inl rfl) (de_call rfl (takes_of rfl rfl rfl rfl) G_put (hr.mono (by decide)) rfl T.g_put T.k_put B_put (da_cons (de_var 4 (pv 4)) (da_cons (de_var 5 (pv 5)) da_nil)))))
  (dss_cons (ds_if (dt_dnotin rfl (ru1 hr) (de_var 7 (pv 7)) (de_var 1 (pv 1)) (by first | rfl | exact nobehind _ (by decide) (by decide)))
  (dss_cons (ds_setK rfl (ps_asg (de_add rfl (de_dget rfl (ru1 hr) (de_var 1 (pv 1)) (de_var 4 (pv 4)) (fun _ _ => rfl)) (de_lst (da_cons (de_var 6 (pv 6)) da_nil))) (pg_sub (de_var 1 (pv 1)) (de_var 7 (pv 7)) (set_dictI (ru1 hr)))))
  (dss_cons (ds_expr (ps_expr (de_meth rfl sn_append (pe_bm PySem.F.plainAttrs_list PySem.F.slot_list_append PySem.F.type_list_append mt_append (de_var 3 (pv 3)) (da_cons (de_var 7 (pv 7)) da_nil)))))
  dss_nil))
  dss_nil)
  dss_nil)))
  dss_nil))
  (dss_cons (ds_ret (de_frz (de_var 3 (pv 3))))
  dss_nil)))) pure
theorem ok_words_of (T : Txt K mg A F) {fd : FuncData} (Dd : Fun K "words_of" "words_of" s_words_of F.f_words_of fd) {d_letters_of : FuncData} (G_letters_of : FnOk P w K mg base (L2.CX P w) 2 F.f_letters_of d_letters_of ["turns"] (toSpM K 1 (s6_letters_of A))) (B_letters_of : Binds K d_letters_of ["turns"] []) {d_plain : FuncData} (G_plain : FnOk P w K mg base (L2.CX P w) 3 F.f_plain d_plain ["size"] (toSp K 1 (sp_plain A))) (B_plain : Binds K d_plain ["size"] []) {d_next_row : FuncData} (G_next_row : FnOk P w K mg base (L2.CX P w) 2 F.f_next_row d_next_row ["row", "words", "letters"] (toSpM K 3 (sm_next_row A))) (B_next_row : Binds K d_next_row ["row", "words", "letters"] [])
    (pure : ∀ (ds : List TC.D) (μ : Mem) (R : TC.D → Mem → Prop) (Z : Addr → Mem → Prop), ds.length = 2 → s6_words_of A ds μ R Z → w_words_of K A (gam0 5 ds) μ ⟨fun _ μ1 => R .non μ1, R, fun _ _ => False, fun _ _ => False, fun cl _ μ1 => Z cl μ1⟩) :
    FnOk P w K mg base (L2.CX P w) 4 F.f_words_of fd ["turns", "size"] (toSpM K 2 (s6_words_of A)) :=
  fn_okM (wb := w_words_of K A) Dd sc_words_of rfl (fun S N0 H0 cdv A0 outer s H E hr =>
    (dss_cons (ds_asg (ps_set (i := 2) sc_words_of.nd rfl (Or.inl rfl) (de_callM rfl (takes_of rfl rfl rfl rfl) G_letters_of (hr.mono (by decide)) rfl T.g_letters_of T.k_letters_of B_letters_of (da_cons (de_var 0 (pv 0)) da_nil))))
  (dss_cons (ds_asg (ps_set (i := 3) sc_words_of.nd rfl (Or.inl rfl) (de_disp1 rfl hr.units0 (de_call rfl (takes_of rfl rfl rfl rfl) G_plain (hr.mono (by decide)) rfl T.g_plain T.k_plain B_plain (da_cons (de_var 1 (pv 1)) da_nil)) (de_lst da_nil))))
  (dss_cons (ds_asg (ps_set (i := 4) sc_words_of.nd rfl (Or.inl rfl) (de_lst (da_cons (de_call rfl (takes_of rfl rfl rfl rfl) G_plain (hr.mono (by decide)) rfl T.g_plain T.k_plain B_plain (da_cons (de_var 1 (pv 1)) da_nil)) da_nil))))
  (dss_cons (ds_while (passes_of rfl) (dt_tru rfl (de_var 4 (pv 4)))
  (dss_cons (ds_asg (ps_set (i := 4) sc_words_of.nd rfl (Or.inl rfl) (de_callM rfl (takes_of rfl rfl rfl rfl) G_next_row (hr.mono (by decide)) rfl T.g_next_row T.k_next_row B_next_row (da_cons (de_var 4 (pv 4)) (da_cons (de_var 3 (pv 3)) (da_cons (de_var 2 (pv 2)) da_nil))))))
  dss_nil))
  (dss_cons (ds_ret (de_frzD (de_var 3 (pv 3))))
  dss_nil)))))) pure
theorem ok_few_and_all (T : Txt K mg A F) {fd : FuncData} (Dd : Fun K "few_and_all" "few_and_all" s_few_and_all F.f_few_and_all fd) {d_plain : FuncData} (G_plain : FnOk P w K mg base (L2.CX P w) 3 F.f_plain d_plain ["size"] (toSp K 1 (sp_plain A))) (B_plain : Binds K d_plain ["size"] []) {d_words_of : FuncData} (G_words_of : FnOk P w K mg base (L2.CX P w) 4 F.f_words_of d_words_of ["turns", "size"] (toSpM K 2 (s6_words_of A))) (B_words_of : Binds K d_words_of ["turns", "size"] [])
    (pure : ∀ (ds : List TC.D) (R : TC.D → Prop) (Z : Addr → Prop), ds.length = 2 → s6_few_and_all A ds R Z → w_few_and_all K A (gam0 5 ds) [] ⟨fun _ _ => R .non, fun d _ => d.pure = true ∧ R d, fun _ _ => False, fun _ _ => False, fun cl _ _ => Z cl⟩) :
    FnOk P w K mg base (L2.CX P w) 5 F.f_few_and_all fd ["turns", "size"] (toSp K 2 (s6_few_and_all A)) :=
  fn_ok (wb := w_few_and_all K A) Dd sc_few_and_all rfl (fun S N0 H0 cdv A0 outer s H E hr =>
    (dss_cons (ds_asg (ps_set (i := 2) sc_few_and_all.nd rfl (Or.inl rfl) (de_lstM da_nil)))
  (dss_cons (ds_asg (ps_set (i := 3) sc_few_and_all.nd rfl (Or.inl rfl) (de_tup (da_cons (de_call rfl (takes_of rfl rfl rfl rfl) G_plain (hr.mono (by decide)) rfl T.g_plain T.k_plain B_plain (da_cons (de_var 1 (pv 1)) da_nil)) da_nil))))
  (dss_cons (ds_for (passes_of rfl) rfl (di_val rfl (de_var 0 (pv 0))) (dg_name (pg_name (i := 4) sc_few_and_all.nd rfl (Or.inl rfl)))
  (dss_cons (ds_if (dt_notinP rfl (ru65 hr) (de_var 4 (pv 4)) (de_var 3 (pv 3)) (by first | rfl | exact nobehind _ (by decide) (by decide)))
  (dss_cons (ds_expr (ps_expr (de_meth rfl sn_append (pe_bm PySem.F.plainAttrs_list PySem.F.slot_list_append PySem.F.type_list_append mt_append (de_var 2 (pv 2)) (da_cons (de_var 4 (pv 4)) da_nil)))))
  (dss_cons (ds_asg (ps_set (i := 3) sc_few_and_all.nd rfl (Or.inl rfl) (de_cb sn_tupOf (pe_callTy call_tupOf (by rfl) T.b_tuple (by decide +kernel) (da_cons (de_cb sn_sortDI (pe_callB (cr_sortedDI rfl) (by rfl) T.b_sorted (by decide +kernel) (da_cons (de_callM rfl (takes_of rfl rfl rfl rfl) G_words_of (hr.mono (by decide)) rfl T.g_words_of T.k_words_of B_words_of (da_cons (de_var 2 (pv 2)) (da_cons (de_var 1 (pv 1)) da_nil))) da_nil))) da_nil)))))
  dss_nil))
  dss_nil)
  dss_nil))
  (dss_cons (ds_ret (de_tup (da_cons (de_frz (de_var 2 (pv 2))) (da_cons (de_var 3 (pv 3)) da_nil))))
  dss_nil))))) pure
theorem ok_is_group (T : Txt K mg A F) {fd : FuncData} (Dd : Fun K "is_group" "is_group" s_is_group F.f_is_group fd) {d_need_size : FuncData} (G_need_size : FnOk P w K mg base (L2.CX P w) 2 F.f_need_size d_need_size ["size"] (toSp K 1 (sp_need_size A))) (B_need_size : Binds K d_need_size ["size"] []) {d_few_and_all : FuncData} (G_few_and_all : FnOk P w K mg base (L2.CX P w) 5 F.f_few_and_all d_few_and_all ["turns", "size"] (toSp K 2 (s6_few_and_all A))) (B_few_and_all : Binds K d_few_and_all ["turns", "size"] []) {d_size_of : FuncData} (G_size_of : FnOk P w K mg base (L2.CX P w) 2 F.f_size_of d_size_of ["thing"] (toSp K 1 (sp_size_of A))) (B_size_of : Binds K d_size_of ["thing"] [])
    (pure : ∀ (ds : List TC.D) (R : TC.D → Prop) (Z : Addr → Prop), ds.length = 2 → sp_is_group A ds R Z → w_is_group K A (gam0 3 ds) [] ⟨fun _ _ => R .non, fun d _ => d.pure = true ∧ R d, fun _ _ => False, fun _ _ => False, fun cl _ _ => Z cl⟩) :
    FnOk P w K mg base (L2.CX P w) 6 F.f_is_group fd ["thing", "size"] (toSp K 2 (sp_is_group A)) :=
  fn_ok (wb := w_is_group K A) Dd sc_is_group rfl (fun S N0 H0 cdv A0 outer s H E hr =>
    (dss_cons (ds_expr (ps_expr (de_call rfl (takes_of rfl rfl rfl rfl) G_need_size (hr.mono (by decide)) rfl T.g_need_size T.k_need_size B_need_size (da_cons (de_var 1 (pv 1)) da_nil))))
  (dss_cons (ds_if (dw_pt (dw_or (dt_not (dt_val (de_cb sn_isi (pe_callB call_isAny (by rfl) T.b_isinstance (by decide +kernel) (da_cons (de_var 0 (pv 0)) (da_cons (de_c (pe_bltn (v := .ty "tuple") (u := .type "tuple") (by rfl) T.b_tuple (by decide +kernel) rfl) (fun _ _ => .ty _)) da_nil)))))) (dw_or1 (dt_not (dt_val (de_cb sn_all (pe_callB (cr_all rfl) (by rfl) T.b_all (by decide +kernel) (da_cons (de_lc (own := [("one", 2)]) rfl sc_is_group.nd (di_val rfl (de_var 0 (pv 0))) (blkOk_by (own := [("one", 2)]) (N := N_is_group) (sc := defScope s_is_group) (by decide +kernel)) own_name (fun _ _ _ _ _ => pg_name (i := 2) sc_is_group.nd rfl (Or.inl rfl)) (fun _ _ _ _ _ => dts_nil) (fun _ _ _ _ _ => (de_eq rfl hr.units (de_call rfl takes0 G_size_of (hr.mono (by decide)) rfl T.g_size_of T.k_size_of B_size_of (da_cons (de_var 2 (pv 2)) da_nil)) (de_var 1 (pv 1))))) da_nil))))))))
  (dss_cons (ds_ret de_bl)
  dss_nil)
  dss_nil)
  (dss_cons (ds_ret (de_eq rfl hr.units (de_item rfl (de_call rfl (takes_of rfl rfl rfl rfl) G_few_and_all (hr.mono (by decide)) rfl T.g_few_and_all T.k_few_and_all B_few_and_all (da_cons (de_var 0 (pv 0)) (da_cons (de_var 1 (pv 1)) da_nil))) de_int) (de_var 0 (pv 0))))
  dss_nil)))) pure
theorem ok_lot_of (T : Txt K mg A F) {fd : FuncData} (Dd : Fun K "lot_of" "lot_of" s_lot_of F.f_lot_of fd) {d_put : FuncData} (G_put : FnOk P w K mg base (L2.CX P w) 1 F.f_put d_put ["one", "other"] (toSp K 2 (sp_put A))) (B_put : Binds K d_put ["one", "other"] [])
    (pure : ∀ (ds : List TC.D) (R : TC.D → Prop) (Z : Addr → Prop), ds.length = 2 → sp_lot_of A ds R Z → w_lot_of K A (gam0 3 ds) [] ⟨fun _ _ => R .non, fun d _ => d.pure = true ∧ R d, fun _ _ => False, fun _ _ => False, fun cl _ _ => Z cl⟩) :
    FnOk P w K mg base (L2.CX P w) 2 F.f_lot_of fd ["turn", "group"] (toSp K 2 (sp_lot_of A)) :=
  fn_ok (wb := w_lot_of K A) Dd sc_lot_of rfl (fun S N0 H0 cdv A0 outer s H E hr =>
    (dss_cons (ds_ret (de_cb sn_tupOf (pe_callTy call_tupOf (by rfl) T.b_tuple (by decide +kernel) (da_cons (de_cb sn_sortUL (pe_callB cr_sortedU (by rfl) T.b_sorted (by decide +kernel) (da_cons (de_lc (own := [("one", 2)]) rfl sc_lot_of.nd (di_val rfl (de_var 1 (pv 1))) (blkOk_by (own := [("one", 2)]) (N := N_lot_of) (sc := defScope s_lot_of) (by decide +kernel)) own_name (fun _ _ _ _ _ => pg_name (i := 2) sc_lot_of.nd rfl (Or.inl rfl)) (fun _ _ _ _ _ => dts_nil) (fun _ _ _ _ _ => (de_call rfl takes0 G_put (hr.mono (by decide)) rfl T.g_put T.k_put B_put (da_cons (de_var 0 (pv 0)) (da_cons (de_var 2 (pv 2)) da_nil))))) da_nil))) da_nil))))
  dss_nil)) pure
theorem ok_lot (T : Txt K mg A F) {fd : FuncData} (Dd : Fun K "lot" "lot" s_lot F.f_lot fd) {d_need_turn : FuncData} (G_need_turn : FnOk P w K mg base (L2.CX P w) 3 F.f_need_turn d_need_turn ["turn"] (toSp K 1 (sp_need_turn A))) (B_need_turn : Binds K d_need_turn ["turn"] []) {d_need_group : FuncData} (G_need_group : FnOk P w K mg base (L2.CX P w) 7 F.f_need_group d_need_group ["group", "sizes"] (toSp K 2 (s5_need_group A))) (B_need_group : Binds K d_need_group ["group", "sizes"] []) {d_lot_of : FuncData} (G_lot_of : FnOk P w K mg base (L2.CX P w) 2 F.f_lot_of d_lot_of ["turn", "group"] (toSp K 2 (sp_lot_of A))) (B_lot_of : Binds K d_lot_of ["turn", "group"] [])
    (pure : ∀ (ds : List TC.D) (R : TC.D → Prop) (Z : Addr → Prop), ds.length = 2 → sp_lot A ds R Z → w_lot K A (gam0 3 ds) [] ⟨fun _ _ => R .non, fun d _ => d.pure = true ∧ R d, fun _ _ => False, fun _ _ => False, fun cl _ _ => Z cl⟩) :
    FnOk P w K mg base (L2.CX P w) 8 F.f_lot fd ["turn", "group"] (toSp K 2 (sp_lot A)) :=
  fn_ok (wb := w_lot K A) Dd sc_lot rfl (fun S N0 H0 cdv A0 outer s H E hr =>
    (dss_cons (ds_asg (ps_set (i := 2) sc_lot.nd rfl (Or.inl rfl) (de_call rfl (takes_of rfl rfl rfl rfl) G_need_turn (hr.mono (by decide)) rfl T.g_need_turn T.k_need_turn B_need_turn (da_cons (de_var 0 (pv 0)) da_nil))))
  (dss_cons (ds_expr (ps_expr (de_call rfl (takes_of rfl rfl rfl rfl) G_need_group (hr.mono (by decide)) rfl T.g_need_group T.k_need_group B_need_group (da_cons (de_var 1 (pv 1)) (da_cons (de_tup (da_cons (de_var 2 (pv 2)) da_nil)) da_nil)))))
  (dss_cons (ds_ret (de_call rfl (takes_of rfl rfl rfl rfl) G_lot_of (hr.mono (by decide)) rfl T.g_lot_of T.k_lot_of B_lot_of (da_cons (de_var 0 (pv 0)) (da_cons (de_var 1 (pv 1)) da_nil))))
  dss_nil)))) pure
theorem ok_lots (T : Txt K mg A F) {fd : FuncData} (Dd : Fun K "lots" "lots" s_lots F.f_lots fd) {d_need_size : FuncData} (G_need_size : FnOk P w K mg base (L2.CX P w) 2 F.f_need_size d_need_size ["size"] (toSp K 1 (sp_need_size A))) (B_need_size : Binds K d_need_size ["size"] []) {d_need_group : FuncData} (G_need_group : FnOk P w K mg base (L2.CX P w) 7 F.f_need_group d_need_group ["group", "sizes"] (toSp K 2 (s5_need_group A))) (B_need_group : Binds K d_need_group ["group", "sizes"] []) {d_lot_of : FuncData} (G_lot_of : FnOk P w K mg base (L2.CX P w) 2 F.f_lot_of d_lot_of ["turn", "group"] (toSp K 2 (sp_lot_of A))) (B_lot_of : Binds K d_lot_of ["turn", "group"] [])
    (pure : ∀ (ds : List TC.D) (R : TC.D → Prop) (Z : Addr → Prop), ds.length = 2 → sp_lots A ds R Z → w_lots K A (gam0 7 ds) [] ⟨fun _ _ => R .non, fun d _ => d.pure = true ∧ R d, fun _ _ => False, fun _ _ => False, fun cl _ _ => Z cl⟩) :
    FnOk P w K mg base (L2.CX P w) 8 F.f_lots fd ["group", "size"] (toSp K 2 (sp_lots A)) :=
  fn_ok (wb := w_lots K A) Dd sc_lots rfl (fun S N0 H0 cdv A0 outer s H E hr =>
    (dss_cons (ds_expr (ps_expr (de_call rfl (takes_of rfl rfl rfl rfl) G_need_size (hr.mono (by decide)) rfl T.g_need_size T.k_need_size B_need_size (da_cons (de_var 1 (pv 1)) da_nil))))
  (dss_cons (ds_expr (ps_expr (de_call rfl (takes_of rfl rfl rfl rfl) G_need_group (hr.mono (by decide)) rfl T.g_need_group T.k_need_group B_need_group (da_cons (de_var 0 (pv 0)) (da_cons (de_tup (da_cons (de_var 1 (pv 1)) da_nil)) da_nil)))))
  (dss_cons (ds_asg (ps_set (i := 2) sc_lots.nd rfl (Or.inl rfl) (de_lstM da_nil)))
  (dss_cons (ds_asg (ps_set (i := 3) sc_lots.nd rfl (Or.inl rfl) de_dictM))
  (dss_cons (ds_forPm (passes_of rfl) rfl (by rfl) T.t_permutations (rgA1 (prg_1 (by rfl) T.b_range (de_var 1 (pv 1)))) (pg_name (i := 4) sc_lots.nd rfl (Or.inl rfl))
  (dss_cons (ds_if (dt_dnotin rfl (ru1 hr) (de_var 4 (pv 4)) (de_var 3 (pv 3)) (by first | rfl | exact nobehind _ (by decide) (by decide)))
  (dss_cons (ds_asg (ps_set (i := 5) sc_lots.nd rfl (Or.inl rfl) (de_call rfl (takes_of rfl rfl rfl rfl) G_lot_of (hr.mono (by decide)) rfl T.g_lot_of T.k_lot_of B_lot_of (da_cons (de_var 4 (pv 4)) (da_cons (de_var 0 (pv 0)) da_nil)))))
  (dss_cons (ds_expr (ps_expr (de_meth rfl sn_append (pe_bm PySem.F.plainAttrs_list PySem.F.slot_list_append PySem.F.type_list_append mt_append (de_var 2 (pv 2)) (da_cons (de_var 5 (pv 5)) da_nil)))))
  (dss_cons (ds_for (passes_of rfl) rfl (di_val rfl (de_var 5 (pv 5))) (dg_name (pg_name (i := 6) sc_lots.nd rfl (Or.inl rfl)))
  (dss_cons (ds_setK rfl (ps_asg de_bl (pg_sub (de_var 3 (pv 3)) (de_var 6 (pv 6)) (set_dictI (ru1 hr)))))
  dss_nil))
  dss_nil)))
  dss_nil)
  dss_nil))
  (dss_cons (ds_ret (de_frz (de_var 2 (pv 2))))
  dss_nil))))))) pure
theorem ok_law_state (T : Txt K mg A F) {fd : FuncData} (Dd : Fun K "_law_state" "_law_state" s_law_state F.f_law_state fd)
    (pure : ∀ (ds : List TC.D) (R : TC.D → Prop) (Z : Addr → Prop), ds.length = 1 → sp_law_state A ds R Z → w_law_state K A (gam0 2 ds) [] ⟨fun _ _ => R .non, fun d _ => d.pure = true ∧ R d, fun _ _ => False, fun _ _ => False, fun cl _ _ => Z cl⟩) :
    FnOk P w K mg base (L2.CX P w) 1 F.f_law_state fd ["script"] (toSp K 1 (sp_law_state A)) :=
  fn_ok (wb := w_law_state K A) Dd sc_law_state rfl (fun S N0 H0 cdv A0 outer s H E hr =>
    (dss_cons (ds_ret (de_lst (da_cons (de_orL rfl (de_lc (own := [("cell", 1)]) rfl sc_law_state.nd (di_val rfl (de_slice rfl (de_var 0 (pv 0)) do_none (do_some de_int))) (blkOk_by (own := [("cell", 1)]) (N := N_law_state) (sc := defScope s_law_state) (by decide +kernel)) own_name (fun _ _ _ _ _ => pg_name (i := 1) sc_law_state.nd rfl (Or.inl rfl)) (fun _ _ _ _ _ => dts_nil) (fun _ _ _ _ _ => (de_cb sn_abs (pe_callB call_abs (by rfl) T.b_abs (by decide +kernel) (da_cons (de_var 1 (pv 1)) da_nil))))) (de_one (de_lst (da_cons de_int da_nil)))) (da_cons de_int (da_cons de_int da_nil)))))
  dss_nil)) pure
theorem ok_law_pick (T : Txt K mg A F) {fd : FuncData} (Dd : Fun K "_law_pick" "_law_pick" s_law_pick F.f_law_pick fd) {d_law_draw : FuncData} (G_law_draw : FnOk P w K mg base (L2.CX P w) 1 F.f_law_draw d_law_draw ["state", "many"] (toSp K 2 (sp_law_draw A))) (B_law_draw : Binds K d_law_draw ["state", "many"] [])
    (pure : ∀ (ds : List TC.D) (R : TC.D → Prop) (Z : Addr → Prop), ds.length = 2 → s6_law_pick A ds R Z → w_law_pick K A (gam0 2 ds) [] ⟨fun _ _ => R .non, fun d _ => d.pure = true ∧ R d, fun _ _ => False, fun _ _ => False, fun cl _ _ => Z cl⟩) :
    FnOk P w K mg base (L2.CX P w) 2 F.f_law_pick fd ["state", "some"] (toSp K 2 (s6_law_pick A)) :=
  fn_ok (wb := w_law_pick K A) Dd sc_law_pick rfl (fun S N0 H0 cdv A0 outer s H E hr =>
    (dss_cons (ds_ret (de_item rfl (de_var 1 (pv 1)) (de_call rfl (takes_of rfl rfl rfl rfl) G_law_draw (hr.mono (by decide)) rfl T.g__law_draw T.k__law_draw B_law_draw (da_cons (de_var 0 (pv 0)) (da_cons (de_cb sn_len (pe_callB call_len_seq (by rfl) T.b_len (by decide +kernel) (da_cons (de_var 1 (pv 1)) da_nil))) da_nil)))))
  dss_nil)) pure
theorem ok_law_mixed (T : Txt K mg A F) {fd : FuncData} (Dd : Fun K "_law_mixed" "_law_mixed" s_law_mixed F.f_law_mixed fd) {d_law_draw : FuncData} (G_law_draw : FnOk P w K mg base (L2.CX P w) 1 F.f_law_draw d_law_draw ["state", "many"] (toSp K 2 (sp_law_draw A))) (B_law_draw : Binds K d_law_draw ["state", "many"] [])
    (pure : ∀ (ds : List TC.D) (R : TC.D → Prop) (Z : Addr → Prop), ds.length = 2 → sx_law_mixed A ds R Z → w_law_mixed K A (gam0 4 ds) [] ⟨fun _ _ => R .non, fun d _ => d.pure = true ∧ R d, fun _ _ => False, fun _ _ => False, fun cl _ _ => Z cl⟩) :
    FnOk P w K mg base (L2.CX P w) 2 F.f_law_mixed fd ["state", "some"] (toSp K 2 (sx_law_mixed A)) :=
  fn_ok (wb := w_law_mixed K A) Dd sc_law_mixed rfl (fun S N0 H0 cdv A0 outer s H E hr =>
    (dss_cons (ds_par (ps_par (i := 2) (j := 3) (by rfl) sc_law_mixed.nd rfl rfl (by decide) rfl rfl (da_cons (de_cb sn_lstOfM (pe_callTy call_list_of (by rfl) T.b_list (by decide +kernel) (da_cons (de_var 1 (pv 1)) da_nil))) (da_cons (de_lstM da_nil) da_nil)) (by rfl)))
  (dss_cons (ds_while (passes_of rfl) (dt_ne rfl hr.units (de_var 2 (pv 2)) (de_lst da_nil))
  (dss_cons (ds_expr (ps_expr (de_meth rfl sn_append (pe_bm PySem.F.plainAttrs_list PySem.F.slot_list_append PySem.F.type_list_append mt_append (de_var 3 (pv 3)) (da_cons (de_meth rfl sn_popAt (pe_bm PySem.F.plainAttrs_list PySem.F.slot_list_pop PySem.F.type_list_pop mt_popAt (de_var 2 (pv 2)) (da_cons (de_call rfl (takes_of rfl rfl rfl rfl) G_law_draw (hr.mono (by decide)) rfl T.g__law_draw T.k__law_draw B_law_draw (da_cons (de_var 0 (pv 0)) (da_cons (de_cb sn_len (pe_callB call_len_seq (by rfl) T.b_len (by decide +kernel) (da_cons (de_var 2 (pv 2)) da_nil))) da_nil))) da_nil))) da_nil)))))
  dss_nil))
  (dss_cons (ds_ret (de_frz (de_var 3 (pv 3))))
  dss_nil)))) pure
theorem ok_law_a_turn (T : Txt K mg A F) {fd : FuncData} (Dd : Fun K "_law_a_turn" "_law_a_turn" s_law_a_turn F.f_law_a_turn fd) {d_law_draw : FuncData} (G_law_draw : FnOk P w K mg base (L2.CX P w) 1 F.f_law_draw d_law_draw ["state", "many"] (toSp K 2 (sp_law_draw A))) (B_law_draw : Binds K d_law_draw ["state", "many"] []) {d_law_mixed : FuncData} (G_law_mixed : FnOk P w K mg base (L2.CX P w) 2 F.f_law_mixed d_law_mixed ["state", "some"] (toSp K 2 (sx_law_mixed A))) (B_law_mixed : Binds K d_law_mixed ["state", "some"] [])
    (pure : ∀ (ds : List TC.D) (R : TC.D → Prop) (Z : Addr → Prop), ds.length = 2 → sp_law_a_turn A ds R Z → w_law_a_turn K A (gam0 4 ds) [] ⟨fun _ _ => R .non, fun d _ => d.pure = true ∧ R d, fun _ _ => False, fun _ _ => False, fun cl _ _ => Z cl⟩) :
    FnOk P w K mg base (L2.CX P w) 3 F.f_law_a_turn fd ["state", "size"] (toSp K 2 (sp_law_a_turn A)) :=
  fn_ok (wb := w_law_a_turn K A) Dd sc_law_a_turn rfl (fun S N0 H0 cdv A0 outer s H E hr =>
    (dss_cons (ds_asg (ps_set (i := 2) sc_law_a_turn.nd rfl (Or.inl rfl) (de_call rfl (takes_of rfl rfl rfl rfl) G_law_draw (hr.mono (by decide)) rfl T.g__law_draw T.k__law_draw B_law_draw (da_cons (de_var 0 (pv 0)) (da_cons de_int da_nil)))))
  (dss_cons (ds_if (dt_eq rfl hr.units (de_var 2 (pv 2)) de_int)
  (dss_cons (ds_ret (de_tupRg rfl rfl T.b_tuple (rgA1 (prg_1 rfl T.b_range (de_var 1 (pv 1))))))
  dss_nil)
  dss_nil)
  (dss_cons (ds_if (dt_eq rfl hr.units (de_var 2 (pv 2)) de_int)
  (dss_cons (ds_asg (ps_set (i := 3) sc_law_a_turn.nd rfl (Or.inl rfl) (de_call rfl (takes_of rfl rfl rfl rfl) G_law_draw (hr.mono (by decide)) rfl T.g__law_draw T.k__law_draw B_law_draw (da_cons (de_var 0 (pv 0)) (da_cons (de_sub (de_var 1 (pv 1)) de_int) da_nil)))))
  (dss_cons (ds_ret (de_add rfl (de_add rfl (de_tupRg rfl rfl T.b_tuple (rgA1 (prg_1 rfl T.b_range (de_var 3 (pv 3))))) (de_tup (da_cons (de_add rfl (de_var 3 (pv 3)) de_int) (da_cons (de_var 3 (pv 3)) da_nil)))) (de_tupRg rfl rfl T.b_tuple (rgA2 (prg_2 rfl T.b_range (de_add rfl (de_var 3 (pv 3)) de_int) (de_var 1 (pv 1)))))))
  dss_nil))
  dss_nil)
  (dss_cons (ds_ret (de_cb sn_tupOf (pe_callTy call_tupOf (by rfl) T.b_tuple (by decide +kernel) (da_cons (de_call rfl (takes_of rfl rfl rfl rfl) G_law_mixed (hr.mono (by decide)) rfl T.g__law_mixed T.k__law_mixed B_law_mixed (da_cons (de_var 0 (pv 0)) (da_cons (de_lstRg rfl rfl T.b_list (rgA1 (prg_1 rfl T.b_range (de_var 1 (pv 1))))) da_nil))) da_nil))))
  dss_nil))))) pure
theorem ok_law_into (T : Txt K mg A F) {fd : FuncData} (Dd : Fun K "_law_into" "_law_into" s_law_into F.f_law_into fd)
    (pure : ∀ (ds : List TC.D) (R : TC.D → Prop) (Z : Addr → Prop), ds.length = 2 → sp_law_into A ds R Z → w_law_into K A (gam0 3 ds) [] ⟨fun _ _ => R .non, fun d _ => d.pure = true ∧ R d, fun _ _ => False, fun _ _ => False, fun cl _ _ => Z cl⟩) :
    FnOk P w K mg base (L2.CX P w) 1 F.f_law_into fd ["one", "other"] (toSp K 2 (sp_law_into A)) :=
  fn_ok (wb := w_law_into K A) Dd sc_law_into rfl (fun S N0 H0 cdv A0 outer s H E hr =>
    (dss_cons (ds_ret (de_cb sn_tupOf (pe_callTy call_tupOf (by rfl) T.b_tuple (by decide +kernel) (da_cons (de_lc (own := [("spot", 2)]) rfl sc_law_into.nd (di_val rfl (de_var 1 (pv 1))) (blkOk_by (own := [("spot", 2)]) (N := N_law_into) (sc := defScope s_law_into) (by decide +kernel)) own_name (fun _ _ _ _ _ => pg_name (i := 2) sc_law_into.nd rfl (Or.inl rfl)) (fun _ _ _ _ _ => dts_nil) (fun _ _ _ _ _ => (de_item rfl (de_var 0 (pv 0)) (de_var 2 (pv 2))))) da_nil))))
  dss_nil)) pure
theorem ok_law_undone (T : Txt K mg A F) {fd : FuncData} (Dd : Fun K "_law_undone" "_law_undone" s_law_undone F.f_law_undone fd)
    (pure : ∀ (ds : List TC.D) (R : TC.D → Prop) (Z : Addr → Prop), ds.length = 1 → sp_law_undone A ds R Z → w_law_undone K A (gam0 2 ds) [] ⟨fun _ _ => R .non, fun d _ => d.pure = true ∧ R d, fun _ _ => False, fun _ _ => False, fun cl _ _ => Z cl⟩) :
    FnOk P w K mg base (L2.CX P w) 1 F.f_law_undone fd ["turn"] (toSp K 1 (sp_law_undone A)) :=
  fn_ok (wb := w_law_undone K A) Dd sc_law_undone rfl (fun S N0 H0 cdv A0 outer s H E hr =>
    (dss_cons (ds_ret (de_cb sn_tupOf (pe_callTy call_tupOf (by rfl) T.b_tuple (by decide +kernel) (da_cons (de_lc (own := [("number", 1)]) rfl sc_law_undone.nd (di_rng1 rfl T.b_range (da_cons (de_cb sn_len (pe_callB call_len_seq (by rfl) T.b_len (by decide +kernel) (da_cons (de_var 0 (pv 0)) da_nil))) da_nil)) (blkOk_by (own := [("number", 1)]) (N := N_law_undone) (sc := defScope s_law_undone) (by decide +kernel)) own_name (fun _ _ _ _ _ => pg_name (i := 1) sc_law_undone.nd rfl (Or.inl rfl)) (fun _ _ _ _ _ => dts_nil) (fun _ _ _ _ _ => (de_methT rfl sn_tidx (pe_bt PySem.F.plainAttrs_tuple PySem.F.slot_tuple_index PySem.F.type_tuple_index mt_tidx (de_var 0 (pv 0)) (da_cons (de_var 1 (pv 1)) da_nil))))) da_nil))))
  dss_nil)) pure
theorem ok_law_closed (T : Txt K mg A F) {fd : FuncData} (Dd : Fun K "_law_closed" "_law_closed" s_law_closed F.f_law_closed fd) {d_law_into : FuncData} (G_law_into : FnOk P w K mg base (L2.CX P w) 1 F.f_law_into d_law_into ["one", "other"] (toSp K 2 (sp_law_into A))) (B_law_into : Binds K d_law_into ["one", "other"] [])
    (pure : ∀ (ds : List TC.D) (μ : Mem) (R : TC.D → Mem → Prop) (Z : Addr → Mem → Prop), ds.length = 2 → s6_law_closed A ds μ R Z → w_law_closed K A (gam0 8 ds) μ ⟨fun _ μ1 => R .non μ1, R, fun _ _ => False, fun _ _ => False, fun cl _ μ1 => Z cl μ1⟩) :
    FnOk P w K mg base (L2.CX P w) 2 F.f_law_closed fd ["turns", "size"] (toSpM K 2 (s6_law_closed A)) :=
  fn_okM (wb := w_law_closed K A) Dd sc_law_closed rfl (fun S N0 H0 cdv A0 outer s H E hr =>
    (dss_cons (ds_par (ps_par (i := 2) (j := 3) (by rfl) sc_law_closed.nd rfl rfl (by decide) rfl rfl (da_cons (de_disp1 rfl hr.units0 (de_tupRg rfl rfl T.b_tuple (rgA1 (prg_1 rfl T.b_range (de_var 1 (pv 1))))) de_int) (da_cons (de_lst (da_cons (de_tupRg rfl rfl T.b_tuple (rgA1 (prg_1 rfl T.b_range (de_var 1 (pv 1))))) da_nil)) da_nil)) (by rfl)))
  (dss_cons (ds_while (passes_of rfl) (dt_ne rfl hr.units (de_var 3 (pv 3)) (de_lst da_nil))
  (dss_cons (ds_asg (ps_set (i := 4) sc_law_closed.nd rfl (Or.inl rfl) (de_lstM da_nil)))
  (dss_cons (ds_for (passes_of rfl) rfl (di_val rfl (de_var 3 (pv 3))) (dg_name (pg_name (i := 5) sc_law_closed.nd rfl (Or.inl rfl)))
  (dss_cons (ds_or (ds_forM rfl (passes_of rfl) rfl (de_var 0 (pv 0)) (pg_name (i := 6) sc_law_closed.nd rfl (Or.inl rfl))
  (dss_cons (ds_asg (ps_set (i := 7) sc_law_closed.nd rfl (Or.inl rfl) (de_call rfl (takes_of rfl rfl rfl rfl) G_law_into (hr.mono (by decide)) rfl T.g__law_into T.k__law_into B_law_into (da_cons (de_var 5 (pv 5)) (da_cons (de_var 6 (pv 6)) da_nil)))))
  (dss_cons (ds_if (dt_dnotin rfl (ru1 hr) (de_var 7 (pv 7)) (de_var 2 (pv 2)) (by first | rfl | exact nobehind _ (by decide) (by decide)))
  (dss_cons (ds_setK rfl (ps_asg de_int (pg_sub (de_var 2 (pv 2)) (de_var 7 (pv 7)) (set_dictI (ru1 hr)))))
  (dss_cons (ds_expr (ps_expr (de_meth rfl sn_append (pe_bm PySem.F.plainAttrs_list PySem.F.slot_list_append PySem.F.type_list_append mt_append (de_var 4 (pv 4)) (da_cons (de_var 7 (pv 7)) da_nil)))))
  dss_nil))
  dss_nil)
  dss_nil)))
  (ds_for (passes_of rfl) rfl (di_val rfl (de_var 0 (pv 0))) (dg_name (pg_name (i := 6) sc_law_closed.nd rfl (Or.inl rfl)))
  (dss_cons (ds_asg (ps_set (i := 7) sc_law_closed.nd rfl (Or.inl rfl) (de_call rfl (takes_of rfl rfl rfl rfl) G_law_into (hr.mono (by decide)) rfl T.g__law_into T.k__law_into B_law_into (da_cons (de_var 5 (pv 5)) (da_cons (de_var 6 (pv 6)) da_nil)))))
  (dss_cons (ds_if (dt_dnotin rfl (ru1 hr) (de_var 7 (pv 7)) (de_var 2 (pv 2)) (by first | rfl | exact nobehind _ (by decide) (by decide)))
  (dss_cons (ds_setK rfl (ps_asg de_int (pg_sub (de_var 2 (pv 2)) (de_var 7 (pv 7)) (set_dictI (ru1 hr)))))
  (dss_cons (ds_expr (ps_expr (de_meth rfl sn_append (pe_bm PySem.F.plainAttrs_list PySem.F.slot_list_append PySem.F.type_list_append mt_append (de_var 4 (pv 4)) (da_cons (de_var 7 (pv 7)) da_nil)))))
  dss_nil))
  dss_nil)
  dss_nil))))
  dss_nil))
  (dss_cons (ds_asg (ps_set (i := 3) sc_law_closed.nd rfl (Or.inl rfl) (de_frz (de_var 4 (pv 4)))))
  dss_nil))))
  (dss_cons (ds_ret (de_cb sn_tupOf (pe_callTy call_tupOf (by rfl) T.b_tuple (by decide +kernel) (da_cons (de_cb sn_sortDI (pe_callB (cr_sortedDI rfl) (by rfl) T.b_sorted (by decide +kernel) (da_cons (de_var 2 (pv 2)) da_nil))) da_nil))))
  dss_nil)))) pure
theorem ok_law_all (T : Txt K mg A F) {fd : FuncData} (Dd : Fun K "_law_all" "_law_all" s_law_all F.f_law_all fd)
    (pure : ∀ (ds : List TC.D) (R : TC.D → Prop) (Z : Addr → Prop), ds.length = 1 → s5_law_all A ds R Z → w_law_all K A (gam0 1 ds) [] ⟨fun _ _ => R .non, fun d _ => d.pure = true ∧ R d, fun _ _ => False, fun _ _ => False, fun cl _ _ => Z cl⟩) :
    FnOk P w K mg base (L2.CX P w) 1 F.f_law_all fd ["size"] (toSp K 1 (s5_law_all A)) :=
  fn_ok (wb := w_law_all K A) Dd sc_law_all rfl (fun S N0 H0 cdv A0 outer s H E hr =>
    (dss_cons (ds_ret (de_item rfl (de_lst (da_cons de_int (da_cons de_int (da_cons de_int (da_cons de_int (da_cons de_int (da_cons de_int da_nil))))))) (de_var 0 (pv 0))))
  dss_nil)) pure
theorem ok_law_done (T : Txt K mg A F) {fd : FuncData} (Dd : Fun K "_law_done" "_law_done" s_law_done F.f_law_done fd) {d_lot : FuncData} (G_lot : FnOk P w K mg base (L2.CX P w) 8 F.f_lot d_lot ["turn", "group"] (toSp K 2 (sp_lot A))) (B_lot : Binds K d_lot ["turn", "group"] []) {d_lots : FuncData} (G_lots : FnOk P w K mg base (L2.CX P w) 8 F.f_lots d_lots ["group", "size"] (toSp K 2 (sp_lots A))) (B_lots : Binds K d_lots ["group", "size"] [])
    (pure : ∀ (ds : List TC.D) (R : TC.D → Prop) (Z : Addr → Prop), ds.length = 3 → s5_law_done A ds R Z → w_law_done K A (gam0 3 ds) [] ⟨fun _ _ => R .non, fun d _ => d.pure = true ∧ R d, fun _ _ => False, fun _ _ => False, fun cl _ _ => Z cl⟩) :
    FnOk P w K mg base (L2.CX P w) 9 F.f_law_done fd ["way", "one", "other"] (toSp K 3 (s5_law_done A)) :=
  fn_ok (wb := w_law_done K A) Dd sc_law_done rfl (fun S N0 H0 cdv A0 outer s H E hr =>
    (dss_cons (ds_ret (de_ite (dt_eq rfl hr.units (de_var 0 (pv 0)) de_str) (de_call rfl (takes_of rfl rfl rfl rfl) G_lot (hr.mono (by decide)) rfl T.g_lot T.k_lot B_lot (da_cons (de_var 1 (pv 1)) (da_cons (de_var 2 (pv 2)) da_nil))) (de_call rfl (takes_of rfl rfl rfl rfl) G_lots (hr.mono (by decide)) rfl T.g_lots T.k_lots B_lots (da_cons (de_var 1 (pv 1)) (da_cons (de_var 2 (pv 2)) da_nil)))))
  dss_nil)) pure
theorem ok_law_tried (T : Txt K mg A F) {fd : FuncData} (Dd : Fun K "_law_tried" "_law_tried" s_law_tried F.f_law_tried fd) {d_law_done : FuncData} (G_law_done : FnOk P w K mg base (L2.CX P w) 9 F.f_law_done d_law_done ["way", "one", "other"] (toSp K 3 (s5_law_done A))) (B_law_done : Binds K d_law_done ["way", "one", "other"] [])
    (pure : ∀ (ds : List TC.D) (R : TC.D → Prop) (Z : Addr → Prop), ds.length = 3 → s5_law_tried A ds R Z → w_law_tried K A (gam0 6 ds) [] ⟨fun _ _ => R .non, fun d _ => d.pure = true ∧ R d, fun _ _ => False, fun _ _ => False, fun cl _ _ => Z cl⟩) :
    FnOk P w K mg base (L2.CX P w) 10 F.f_law_tried fd ["way", "one", "other"] (toSp K 3 (s5_law_tried A)) :=
  fn_ok (wb := w_law_tried K A) Dd sc_law_tried rfl (fun S N0 H0 cdv A0 outer s H E hr =>
    (dss_cons (ds_asg (ps_set (i := 3) sc_law_tried.nd rfl (Or.inl rfl) de_non))
  (dss_cons (ds_try (i := 4) (j := 3) rfl rfl rfl sc_law_tried.nd rfl rfl rfl ⟨rfl, by decide, .inl T.g_CoatError⟩ (takes_of rfl rfl rfl rfl) (fun W pn xe tk hp => (dss_cons (ds_expr (ps_expr (de_call rfl tk G_law_done (hr.mono (by decide)) rfl T.g__law_done T.k__law_done B_law_done (da_cons (de_var 0 (pv 0)) (da_cons (de_var 1 (pv 1)) (da_cons (de_var 2 (pv 2)) da_nil))))))
  dss_nil))
  (fun a oe cls d pn _ _ => pss_one (ps_set (i := 3) sc_law_tried.nd rfl (Or.inl rfl) (pv 4))))
  (dss_cons (ds_if (dt_isN (de_var 3 (pv 3)))
  (dss_cons (ds_ret de_str)
  dss_nil)
  dss_nil)
  (dss_cons (ds_asg (ps_set (i := 5) sc_law_tried.nd rfl (Or.inl rfl) (de_lst (da_cons (de_cb sn_isi (pe_callB call_isAny (by rfl) T.b_isinstance (by decide +kernel) (da_cons (de_var 3 (pv 3)) (da_cons (de_c (pe_glob (v := .ref A.c_NoSize) rfl T.g_NoSize rfl) (fun _ _ => .own _)) da_nil)))) (da_cons (de_cb sn_isi (pe_callB call_isAny (by rfl) T.b_isinstance (by decide +kernel) (da_cons (de_var 3 (pv 3)) (da_cons (de_c (pe_glob (v := .ref A.c_NoTurn) rfl T.g_NoTurn rfl) (fun _ _ => .own _)) da_nil)))) (da_cons (de_cb sn_isi (pe_callB call_isAny (by rfl) T.b_isinstance (by decide +kernel) (da_cons (de_var 3 (pv 3)) (da_cons (de_c (pe_glob (v := .ref A.c_NoGroup) rfl T.g_NoGroup rfl) (fun _ _ => .own _)) da_nil)))) da_nil))))))
  (dss_cons (ds_if (dw_pt (dw_or (dt_ne rfl hr.units (de_meth rfl sn_count (pe_bm PySem.F.plainAttrs_list PySem.F.slot_list_count PySem.F.type_list_count mt_cntV (de_var 5 (pv 5)) (da_cons de_bl da_nil))) de_int) (dw_or1 (dt_not (dt_val (de_cb sn_isi (pe_callB call_isAny (by rfl) T.b_isinstance (by decide +kernel) (da_cons (de_var 3 (pv 3)) (da_cons (de_c (pe_bltn (v := .ty "ValueError") (u := .type "ValueError") (by rfl) T.b_ValueError (by decide +kernel) rfl) (fun _ _ => .ty _)) da_nil)))))))))
  (dss_cons (ds_ret de_str)
  dss_nil)
  dss_nil)
  (dss_cons (ds_ret (de_item rfl (de_lst (da_cons de_str (da_cons de_str (da_cons de_str da_nil)))) (de_meth rfl sn_index (pe_bm PySem.F.plainAttrs_list PySem.F.slot_list_index PySem.F.type_list_index mt_index (de_var 5 (pv 5)) (da_cons de_bl da_nil)))))
  dss_nil))))))) pure
theorem ok_law_refused (T : Txt K mg A F) {fd : FuncData} (Dd : Fun K "_law_refused" "_law_refused" s_law_refused F.f_law_refused fd) {d_law_pick : FuncData} (G_law_pick : FnOk P w K mg base (L2.CX P w) 2 F.f_law_pick d_law_pick ["state", "some"] (toSp K 2 (s6_law_pick A))) (B_law_pick : Binds K d_law_pick ["state", "some"] []) {d_law_closed : FuncData} (G_law_closed : FnOk P w K mg base (L2.CX P w) 2 F.f_law_closed d_law_closed ["turns", "size"] (toSpM K 2 (s6_law_closed A))) (B_law_closed : Binds K d_law_closed ["turns", "size"] []) {d_law_a_turn : FuncData} (G_law_a_turn : FnOk P w K mg base (L2.CX P w) 3 F.f_law_a_turn d_law_a_turn ["state", "size"] (toSp K 2 (sp_law_a_turn A))) (B_law_a_turn : Binds K d_law_a_turn ["state", "size"] []) {d_law_tried : FuncData} (G_law_tried : FnOk P w K mg base (L2.CX P w) 10 F.f_law_tried d_law_tried ["way", "one", "other"] (toSp K 3 (s5_law_tried A))) (B_law_tried : Binds K d_law_tried ["way", "one", "other"] []) {d_law_draw : FuncData} (G_law_draw : FnOk P w K mg base (L2.CX P w) 1 F.f_law_draw d_law_draw ["state", "many"] (toSp K 2 (sp_law_draw A))) (B_law_draw : Binds K d_law_draw ["state", "many"] [])
    (pure : ∀ (ds : List TC.D) (R : TC.D → Prop) (Z : Addr → Prop), ds.length = 3 → s5_law_refused A ds R Z → w_law_refused K A (gam0 8 ds) [] ⟨fun _ _ => R .non, fun d _ => d.pure = true ∧ R d, fun _ _ => False, fun _ _ => False, fun cl _ _ => Z cl⟩) :
    FnOk P w K mg base (L2.CX P w) 11 F.f_law_refused fd ["state", "turns", "size"] (toSp K 3 (s5_law_refused A)) :=
  fn_ok (wb := w_law_refused K A) Dd sc_law_refused rfl (fun S N0 H0 cdv A0 outer s H E hr =>
    (dss_cons (ds_asg (ps_set (i := 3) sc_law_refused.nd rfl (Or.inl rfl) (de_call rfl (takes_of rfl rfl rfl rfl) G_law_pick (hr.mono (by decide)) rfl T.g__law_pick T.k__law_pick B_law_pick (da_cons (de_var 0 (pv 0)) (da_cons (de_lst (da_cons de_non (da_cons (de_tup da_nil) (da_cons (de_tup (da_cons de_int da_nil)) (da_cons (de_lst (da_cons de_int (da_cons de_int da_nil))) (da_cons (de_tup (da_cons de_int (da_cons de_int da_nil))) (da_cons de_str (da_cons de_int (da_cons (de_tup (da_cons de_bl (da_cons de_bl da_nil))) (da_cons de_dict0 da_nil)))))))))) da_nil)))))
  (dss_cons (ds_asg (ps_set (i := 4) sc_law_refused.nd rfl (Or.inl rfl) (de_call rfl (takes_of rfl rfl rfl rfl) G_law_pick (hr.mono (by decide)) rfl T.g__law_pick T.k__law_pick B_law_pick (da_cons (de_var 0 (pv 0)) (da_cons (de_lst (da_cons de_int (da_cons de_int (da_cons de_int (da_cons (de_neg de_int) (da_cons de_non (da_cons de_bl (da_cons de_str (da_cons (de_tup (da_cons de_int da_nil)) da_nil))))))))) da_nil)))))
  (dss_cons (ds_asg (ps_set (i := 5) sc_law_refused.nd rfl (Or.inl rfl) (de_call rfl (takes_of rfl rfl rfl rfl) G_law_pick (hr.mono (by decide)) rfl T.g__law_pick T.k__law_pick B_law_pick (da_cons (de_var 0 (pv 0)) (da_cons (de_lst (da_cons (de_cb sn_lstOf (pe_callTy call_list_of (by rfl) T.b_list (by decide +kernel) (da_cons (de_var 1 (pv 1)) da_nil))) (da_cons (de_slice rfl (de_var 1 (pv 1)) (do_some de_int) do_none) (da_cons (de_add rfl (de_rev rfl (de_var 1 (pv 1))) (de_var 1 (pv 1))) (da_cons (de_tup da_nil) (da_cons de_non (da_cons de_int (da_cons (de_item rfl (de_var 1 (pv 1)) de_int) (da_cons (de_add rfl (de_var 1 (pv 1)) (de_slice rfl (de_var 1 (pv 1)) do_none (do_some de_int))) da_nil))))))))) da_nil)))))
  (dss_cons (ds_asg (ps_set (i := 6) sc_law_refused.nd rfl (Or.inl rfl) (de_add rfl de_int (de_mod (de_add rfl (de_sub (de_var 2 (pv 2)) de_int) (de_call rfl (takes_of rfl rfl rfl rfl) G_law_draw (hr.mono (by decide)) rfl T.g__law_draw T.k__law_draw B_law_draw (da_cons (de_var 0 (pv 0)) (da_cons de_int da_nil)))) de_int))))
  (dss_cons (ds_asg (ps_set (i := 7) sc_law_refused.nd rfl (Or.inl rfl) (de_callM rfl (takes_of rfl rfl rfl rfl) G_law_closed (hr.mono (by decide)) rfl T.g__law_closed T.k__law_closed B_law_closed (da_cons (de_lst (da_cons (de_call rfl (takes_of rfl rfl rfl rfl) G_law_a_turn (hr.mono (by decide)) rfl T.g__law_a_turn T.k__law_a_turn B_law_a_turn (da_cons (de_var 0 (pv 0)) (da_cons (de_var 6 (pv 6)) da_nil))) da_nil)) (da_cons (de_var 6 (pv 6)) da_nil)))))
  (dss_cons (ds_if (dw_pt (dw_or (dt_ne rfl hr.units (de_call rfl (takes_of rfl rfl rfl rfl) G_law_tried (hr.mono (by decide)) rfl T.g__law_tried T.k__law_tried B_law_tried (da_cons de_str (da_cons (de_var 3 (pv 3)) (da_cons (de_var 5 (pv 5)) da_nil)))) de_str) (dw_or1 (dt_ne rfl hr.units (de_call rfl (takes_of rfl rfl rfl rfl) G_law_tried (hr.mono (by decide)) rfl T.g__law_tried T.k__law_tried B_law_tried (da_cons de_str (da_cons (de_item rfl (de_var 1 (pv 1)) (de_neg de_int)) (da_cons (de_var 5 (pv 5)) da_nil)))) de_str))))
  (dss_cons (ds_ret de_bl)
  dss_nil)
  dss_nil)
  (dss_cons (ds_if (dw_pt (dw_or (dt_ne rfl hr.units (de_call rfl (takes_of rfl rfl rfl rfl) G_law_tried (hr.mono (by decide)) rfl T.g__law_tried T.k__law_tried B_law_tried (da_cons de_str (da_cons (de_item rfl (de_var 1 (pv 1)) (de_neg de_int)) (da_cons (de_var 7 (pv 7)) da_nil)))) de_str) (dw_or1 (dt_ne rfl hr.units (de_call rfl (takes_of rfl rfl rfl rfl) G_law_tried (hr.mono (by decide)) rfl T.g__law_tried T.k__law_tried B_law_tried (da_cons de_str (da_cons (de_var 7 (pv 7)) (da_cons (de_var 2 (pv 2)) da_nil)))) de_str))))
  (dss_cons (ds_ret de_bl)
  dss_nil)
  dss_nil)
  (dss_cons (ds_ret (de_and (de_eq rfl hr.units (de_call rfl (takes_of rfl rfl rfl rfl) G_law_tried (hr.mono (by decide)) rfl T.g__law_tried T.k__law_tried B_law_tried (da_cons de_str (da_cons (de_var 5 (pv 5)) (da_cons (de_var 4 (pv 4)) da_nil)))) de_str) (de_one (de_eq rfl hr.units (de_call rfl (takes_of rfl rfl rfl rfl) G_law_tried (hr.mono (by decide)) rfl T.g__law_tried T.k__law_tried B_law_tried (da_cons de_str (da_cons (de_var 5 (pv 5)) (da_cons (de_var 2 (pv 2)) da_nil)))) de_str))))
  dss_nil))))))))) pure
theorem ok_law_places (T : Txt K mg A F) {fd : FuncData} (Dd : Fun K "_law_places" "_law_places" s_law_places F.f_law_places fd)
    (pure : ∀ (ds : List TC.D) (R : TC.D → Prop) (Z : Addr → Prop), ds.length = 1 → sp_law_places A ds R Z → w_law_places K A (gam0 5 ds) [] ⟨fun _ _ => R .non, fun d _ => d.pure = true ∧ R d, fun _ _ => False, fun _ _ => False, fun cl _ _ => Z cl⟩) :
    FnOk P w K mg base (L2.CX P w) 1 F.f_law_places fd ["found"] (toSp K 1 (sp_law_places A)) :=
  fn_ok (wb := w_law_places K A) Dd sc_law_places rfl (fun S N0 H0 cdv A0 outer s H E hr =>
    (dss_cons (ds_asg (ps_set (i := 1) sc_law_places.nd rfl (Or.inl rfl) de_dictM))
  (dss_cons (ds_forP rfl (passes_of rfl) rfl (di_enumS rfl (by rfl) T.b_enumerate (da_cons (de_var 0 (pv 0)) da_nil)) (pg_tup rfl (pgs_cons (pg_name (i := 2) sc_law_places.nd rfl (Or.inl rfl)) (pgs_cons (pg_name (i := 3) sc_law_places.nd rfl (Or.inl rfl)) pgs_nil)))
  (dss_cons (ds_if (dw_pt (dw_or (dt_not (dt_val (de_cb sn_isi (pe_callB call_isAny (by rfl) T.b_isinstance (by decide +kernel) (da_cons (de_var 3 (pv 3)) (da_cons (de_c (pe_bltn (v := .ty "tuple") (u := .type "tuple") (by rfl) T.b_tuple (by decide +kernel) rfl) (fun _ _ => .ty _)) da_nil)))))) (dw_or (dt_ne rfl hr.units (de_var 3 (pv 3)) (de_cb sn_tupOf (pe_callTy call_tupOf (by rfl) T.b_tuple (by decide +kernel) (da_cons (de_cb sn_sortUT (pe_callB cr_sortedUT (by rfl) T.b_sorted (by decide +kernel) (da_cons (de_var 3 (pv 3)) da_nil))) da_nil)))) (dw_or1 (dw_pt (dw_and (dt_gt (de_var 2 (pv 2)) de_int) (dw_and1 (dt_not (dt_ltP rfl (ru65 hr) (de_item rfl (de_var 0 (pv 0)) (de_sub (de_var 2 (pv 2)) de_int)) (de_var 3 (pv 3)))))))))))
  (dss_cons (ds_ret de_non)
  dss_nil)
  dss_nil)
  (dss_cons (ds_for (passes_of rfl) rfl (di_val rfl (de_var 3 (pv 3))) (dg_name (pg_name (i := 4) sc_law_places.nd rfl (Or.inl rfl)))
  (dss_cons (ds_if (dt_din rfl (ru1 hr) (de_var 4 (pv 4)) (de_var 1 (pv 1)) (by first | rfl | exact nobehind _ (by decide) (by decide)))
  (dss_cons (ds_ret de_non)
  dss_nil)
  dss_nil)
  (dss_cons (ds_setK rfl (ps_asg (de_var 2 (pv 2)) (pg_sub (de_var 1 (pv 1)) (de_var 4 (pv 4)) (set_dictI (ru1 hr)))))
  dss_nil)))
  dss_nil)))
  (dss_cons (ds_ret (de_frzD (de_var 1 (pv 1))))
  dss_nil)))) pure
theorem ok_law_draw (T : Txt K mg A F) {fd : FuncData} (Dd : Fun K "_law_draw" "_law_draw" s_law_draw F.f_law_draw fd) : FnOk P w K mg base (L2.CX P w) 1 F.f_law_draw fd ["state", "many"] (toSp K 2 (sp_law_draw A)) :=
  Dd.okX sc_law_draw (fun vs H Q E h => h.1) fun cdv A0 outer s H vs Q E hr h => ⟨t_draw K, (pss_cons (ps_set (i := 2) sc_law_draw.nd rfl (Or.inl rfl) (pe_ix ix_list (pv 0) pe_int (fun _ _ => rfl)))
    (pss_cons (ps_set (i := 3) sc_law_draw.nd rfl (Or.inl rfl) (pe_op op_modN (pe_ix ix_list (pv 0) pe_int (fun _ _ => rfl)) (pe_callB call_len_seq (by rfl) T.b_len (by decide +kernel) (pa_cons (pv 2) pa_nil))))
    (pss_cons (ps_set (i := 4) sc_law_draw.nd rfl (Or.inl rfl) (pe_ix ix_list (pv 2) (pv 3) (fun _ _ => rfl)))
    (pss_cons (ps_if (pt_cmpR op_ge (pv 4) pe_int (nomark _)) (pss_cons (ps_asg (pe_op op_fdivW (pv 4) (pv 1)) (pg_sub (pv 2) (pv 3) set_list)) (pss_cons (ps_ret (pe_op op_modN (pv 4) (pv 1))) pss_nil)) pss_nil)
    (pss_cons (ps_asg (pe_op op_add (pe_ix ix_list (pv 0) pe_int (fun _ _ => rfl)) pe_int) (pg_sub (pv 0) pe_int set_list))
    (pss_cons (ps_asg (pe_op op_modN (pe_op op_add (pe_op op_add (pe_op op_mul (pe_ix ix_list (pv 0) pe_int (fun _ _ => rfl)) pe_int) (pv 4)) pe_int) pe_int) (pg_sub (pv 0) pe_int set_list))
    (pss_cons (ps_ret (pe_op op_modN (pe_op op_fdivW (pe_op op_modN (pe_op op_mul (pe_ix ix_list (pv 0) pe_int (fun _ _ => rfl)) (pe_ix ix_list (pv 0) pe_int (fun _ _ => rfl))) pe_int) pe_int) (pv 1)))
    pss_nil))))))), draw_read h⟩
theorem ok_law (T : Txt K mg A F) {fd : FuncData} (Dd : Fun K "law" "law" s_law F.f_law fd) {d_law_state : FuncData} (G_law_state : FnOk P w K mg base (L2.CX P w) 1 F.f_law_state d_law_state ["script"] (toSp K 1 (sp_law_state A))) (B_law_state : Binds K d_law_state ["script"] []) {d_law_closed : FuncData} (G_law_closed : FnOk P w K mg base (L2.CX P w) 2 F.f_law_closed d_law_closed ["turns", "size"] (toSpM K 2 (s6_law_closed A))) (B_law_closed : Binds K d_law_closed ["turns", "size"] []) {d_lots : FuncData} (G_lots : FnOk P w K mg base (L2.CX P w) 8 F.f_lots d_lots ["group", "size"] (toSp K 2 (sp_lots A))) (B_lots : Binds K d_lots ["group", "size"] []) {d_law_places : FuncData} (G_law_places : FnOk P w K mg base (L2.CX P w) 1 F.f_law_places d_law_places ["found"] (toSp K 1 (sp_law_places A))) (B_law_places : Binds K d_law_places ["found"] []) {d_law_draw : FuncData} (G_law_draw : FnOk P w K mg base (L2.CX P w) 1 F.f_law_draw d_law_draw ["state", "many"] (toSp K 2 (sp_law_draw A))) (B_law_draw : Binds K d_law_draw ["state", "many"] []) {d_law_a_turn : FuncData} (G_law_a_turn : FnOk P w K mg base (L2.CX P w) 3 F.f_law_a_turn d_law_a_turn ["state", "size"] (toSp K 2 (sp_law_a_turn A))) (B_law_a_turn : Binds K d_law_a_turn ["state", "size"] []) {d_law_refused : FuncData} (G_law_refused : FnOk P w K mg base (L2.CX P w) 11 F.f_law_refused d_law_refused ["state", "turns", "size"] (toSp K 3 (s5_law_refused A))) (B_law_refused : Binds K d_law_refused ["state", "turns", "size"] []) {d_law_all : FuncData} (G_law_all : FnOk P w K mg base (L2.CX P w) 1 F.f_law_all d_law_all ["size"] (toSp K 1 (s5_law_all A))) (B_law_all : Binds K d_law_all ["size"] []) {d_law_mixed : FuncData} (G_law_mixed : FnOk P w K mg base (L2.CX P w) 2 F.f_law_mixed d_law_mixed ["state", "some"] (toSp K 2 (sx_law_mixed A))) (B_law_mixed : Binds K d_law_mixed ["state", "some"] []) {d_lot : FuncData} (G_lot : FnOk P w K mg base (L2.CX P w) 8 F.f_lot d_lot ["turn", "group"] (toSp K 2 (sp_lot A))) (B_lot : Binds K d_lot ["turn", "group"] []) {d_law_into : FuncData} (G_law_into : FnOk P w K mg base (L2.CX P w) 1 F.f_law_into d_law_into ["one", "other"] (toSp K 2 (sp_law_into A))) (B_law_into : Binds K d_law_into ["one", "other"] []) {d_law_undone : FuncData} (G_law_undone : FnOk P w K mg base (L2.CX P w) 1 F.f_law_undone d_law_undone ["turn"] (toSp K 1 (sp_law_undone A))) (B_law_undone : Binds K d_law_undone ["turn"] [])
    (pure : w_law K A (gamS 12 1) [] ⟨fun _ _ => False, fun d _ => d = .bl true, fun _ _ => False, fun _ _ => False, fun _ _ _ => False⟩) :
    FnOk P w K mg base (L2.CX P w) 12 F.f_law fd ["script"] (spLaw K) :=
  law_fn (k := 11) (j := 1) (wb := w_law K A) Dd sc_law rfl ⟨by decide, by decide⟩ (fun S N0 H0 cdv A0 outer s H E hr =>
    (ds_asg (ps_set (i := 1) sc_law.nd rfl (Or.inr rfl) (de_call rfl (takes_of rfl rfl rfl rfl) G_law_state (hr.mono (by decide)) rfl T.g__law_state T.k__law_state B_law_state (da_cons (de_var 0 (pv 0)) da_nil))))) (fun S N0 H0 cdv A0 outer s H E hr =>
    (dss_cons (ds_for (passes_of rfl) rfl (di_rng1 rfl T.b_range (da_cons de_int da_nil)) (dg_name (pg_name (i := 2) sc_law.nd rfl (Or.inl rfl)))
  (dss_cons (ds_asg (ps_set (i := 3) sc_law.nd rfl (Or.inr rfl) (de_add rfl de_int (de_call rfl (takes_of rfl rfl rfl rfl) G_law_draw (hr.mono (by decide)) rfl T.g__law_draw T.k__law_draw B_law_draw (da_cons (de_var 1 (pv 1)) (da_cons de_int da_nil))))))
  (dss_cons (ds_asg (ps_set (i := 4) sc_law.nd rfl (Or.inr rfl) (de_callM rfl (takes_of rfl rfl rfl rfl) G_law_closed (hr.mono (by decide)) rfl T.g__law_closed T.k__law_closed B_law_closed (da_cons (de_lc (own := [("k", 7)]) rfl sc_law.nd (di_rng1 rfl T.b_range (da_cons (de_call rfl (takes_of rfl rfl rfl rfl) G_law_draw (hr.mono (by decide)) rfl T.g__law_draw T.k__law_draw B_law_draw (da_cons (de_var 1 (pv 1)) (da_cons de_int da_nil))) da_nil)) (blkOk_by (own := [("k", 7)]) (N := N_law) (sc := defScope s_law) (by decide +kernel)) own_name (fun _ _ _ _ _ => pg_name (i := 7) sc_law.nd rfl (Or.inl rfl)) (fun _ _ _ _ _ => dts_nil) (fun _ _ _ _ _ => (de_call rfl takes0 G_law_a_turn (hr.mono (by decide)) rfl T.g__law_a_turn T.k__law_a_turn B_law_a_turn (da_cons (de_var 1 (pv 1)) (da_cons (de_var 3 (pv 3)) da_nil))))) (da_cons (de_var 3 (pv 3)) da_nil)))))
  (dss_cons (ds_asg (ps_set (i := 5) sc_law.nd rfl (Or.inl rfl) (de_call rfl (takes_of rfl rfl rfl rfl) G_lots (hr.mono (by decide)) rfl T.g_lots T.k_lots B_lots (da_cons (de_var 4 (pv 4)) (da_cons (de_var 3 (pv 3)) da_nil)))))
  (dss_cons (ds_if (dw_pt (dw_or (dt_not (dt_val (de_cb sn_isi (pe_callB call_isAny (by rfl) T.b_isinstance (by decide +kernel) (da_cons (de_var 5 (pv 5)) (da_cons (de_c (pe_bltn (v := .ty "list") (u := .type "list") (by rfl) T.b_list (by decide +kernel) rfl) (fun _ _ => .ty _)) da_nil)))))) (dw_or1 (dt_not (dt_val (de_call rfl (takes_of rfl rfl rfl rfl) G_law_refused (hr.mono (by decide)) rfl T.g__law_refused T.k__law_refused B_law_refused (da_cons (de_var 1 (pv 1)) (da_cons (de_var 4 (pv 4)) (da_cons (de_var 3 (pv 3)) da_nil)))))))))
  (dss_cons (ds_ret de_bl)
  dss_nil)
  dss_nil)
  (dss_cons (ds_asg (ps_set (i := 6) sc_law.nd rfl (Or.inl rfl) (de_call rfl (takes_of rfl rfl rfl rfl) G_law_places (hr.mono (by decide)) rfl T.g__law_places T.k__law_places B_law_places (da_cons (de_var 5 (pv 5)) da_nil))))
  (dss_cons (ds_if (dw_pt (dw_or (dt_isN (de_var 6 (pv 6))) (dw_or (dt_ne rfl hr.units (de_cb sn_lenI (pe_callB cr_lenI (by rfl) T.b_len (by decide +kernel) (da_cons (de_var 6 (pv 6)) da_nil))) (de_call rfl (takes_of rfl rfl rfl rfl) G_law_all (hr.mono (by decide)) rfl T.g__law_all T.k__law_all B_law_all (da_cons (de_var 3 (pv 3)) da_nil))) (dw_or1 (dt_ne rfl hr.units (de_lc (own := [("some", 11)]) rfl sc_law.nd (di_val rfl (de_var 5 (pv 5))) (blkOk_by (own := [("some", 11)]) (N := N_law) (sc := defScope s_law) (by decide +kernel)) own_name (fun _ _ _ _ _ => pg_name (i := 11) sc_law.nd rfl (Or.inl rfl)) (fun _ _ _ _ _ => (dts_one (dt_ne rfl hr.units (de_cb sn_len (pe_callB call_len_seq (by rfl) T.b_len (by decide +kernel) (da_cons (de_var 11 (pv 11)) da_nil))) (de_cb sn_len (pe_callB call_len_seq (by rfl) T.b_len (by decide +kernel) (da_cons (de_var 4 (pv 4)) da_nil)))))) (fun _ _ _ _ _ => (de_var 11 (pv 11)))) (de_lst da_nil))))))
  (dss_cons (ds_ret de_bl)
  dss_nil)
  dss_nil)
  (dss_cons (ds_for (passes_of rfl) rfl (di_rng1 rfl T.b_range (da_cons (de_ite (dt_lt (de_cb sn_len (pe_callB call_len_seq (by rfl) T.b_len (by decide +kernel) (da_cons (de_var 4 (pv 4)) da_nil))) de_int) de_int de_int) da_nil)) (dg_name (pg_name (i := 7) sc_law.nd rfl (Or.inl rfl)))
  (dss_cons (ds_par (ps_par (i := 9) (j := 10) (by rfl) sc_law.nd rfl rfl (by decide) rfl rfl (da_cons (de_cb sn_tupOf (pe_callTy call_tupOf (by rfl) T.b_tuple (by decide +kernel) (da_cons (de_call rfl (takes_of rfl rfl rfl rfl) G_law_mixed (hr.mono (by decide)) rfl T.g__law_mixed T.k__law_mixed B_law_mixed (da_cons (de_var 1 (pv 1)) (da_cons (de_lstRg rfl rfl T.b_list (rgA1 (prg_1 rfl T.b_range (de_var 3 (pv 3))))) da_nil))) da_nil))) (da_cons (de_cb sn_tupOf (pe_callTy call_tupOf (by rfl) T.b_tuple (by decide +kernel) (da_cons (de_call rfl (takes_of rfl rfl rfl rfl) G_law_mixed (hr.mono (by decide)) rfl T.g__law_mixed T.k__law_mixed B_law_mixed (da_cons (de_var 1 (pv 1)) (da_cons (de_lstRg rfl rfl T.b_list (rgA1 (prg_1 rfl T.b_range (de_var 3 (pv 3))))) da_nil))) da_nil))) da_nil)) (by rfl)))
  (dss_cons (ds_if (dw_pt (dw_or (dt_dnotin rfl (ru1 hr) (de_var 9 (pv 9)) (de_var 6 (pv 6)) (by first | rfl | exact nobehind _ (by decide) (by decide))) (dw_or (dt_dnotin rfl (ru1 hr) (de_var 10 (pv 10)) (de_var 6 (pv 6)) (by first | rfl | exact nobehind _ (by decide) (by decide))) (dw_or1 (dt_ne rfl hr.units (de_call rfl (takes_of rfl rfl rfl rfl) G_lot (hr.mono (by decide)) rfl T.g_lot T.k_lot B_lot (da_cons (de_var 9 (pv 9)) (da_cons (de_var 4 (pv 4)) da_nil))) (de_item rfl (de_var 5 (pv 5)) (de_dget rfl (ru1 hr) (de_var 6 (pv 6)) (de_var 9 (pv 9)) (fun _ _ => rfl))))))))
  (dss_cons (ds_ret de_bl)
  dss_nil)
  dss_nil)
  (dss_cons (ds_if (dt_ne rfl hr.units (de_eq rfl hr.units (de_dget rfl (ru1 hr) (de_var 6 (pv 6)) (de_var 9 (pv 9)) (fun _ _ => rfl)) (de_dget rfl (ru1 hr) (de_var 6 (pv 6)) (de_var 10 (pv 10)) (fun _ _ => rfl))) (de_inP rfl (ru65 hr) (de_call rfl (takes_of rfl rfl rfl rfl) G_law_into (hr.mono (by decide)) rfl T.g__law_into T.k__law_into B_law_into (da_cons (de_call rfl (takes_of rfl rfl rfl rfl) G_law_undone (hr.mono (by decide)) rfl T.g__law_undone T.k__law_undone B_law_undone (da_cons (de_var 9 (pv 9)) da_nil)) (da_cons (de_var 10 (pv 10)) da_nil))) (de_var 4 (pv 4)) (by first | rfl | exact nobehind _ (by decide) (by decide))))
  (dss_cons (ds_ret de_bl)
  dss_nil)
  dss_nil)
  (dss_cons (ds_for (passes_of rfl) rfl (di_val rfl (de_slice rfl (de_var 4 (pv 4)) do_none (do_some de_int))) (dg_name (pg_name (i := 8) sc_law.nd rfl (Or.inl rfl)))
  (dss_cons (ds_if (dt_ne rfl hr.units (de_dget rfl (ru1 hr) (de_var 6 (pv 6)) (de_call rfl (takes_of rfl rfl rfl rfl) G_law_into (hr.mono (by decide)) rfl T.g__law_into T.k__law_into B_law_into (da_cons (de_var 9 (pv 9)) (da_cons (de_var 8 (pv 8)) da_nil))) (fun _ _ => rfl)) (de_dget rfl (ru1 hr) (de_var 6 (pv 6)) (de_var 9 (pv 9)) (fun _ _ => rfl)))
  (dss_cons (ds_ret de_bl)
  dss_nil)
  dss_nil)
  dss_nil))
  dss_nil)))))
  dss_nil))))))))
  (dss_cons (ds_ret de_bl)
  dss_nil))) pure
end
end turncoats_k05_whole_lots_part_all_turns
end TC

set_option Elab.async false
set_option linter.all false
set_option maxRecDepth 100000
set_option maxHeartbeats 4000000
namespace TC
namespace turncoats_k05_whole_lots_part_all_turns
open PySem PySem.Spec PyProof.Rows L2
theorem all_mk {P : Program} {w : World} {K : PySem.W.Frag} {h : Heap} {mg : Str → Option Value} {fa : Addr} {C_CoatError : Addr}
    {C_NoSize : Addr}
    {C_NoTurn : Addr}
    {C_NoGroup : Addr}
    {a_SIZES : Addr} {nz_SIZES : Nat} {sl_SIZES : Array (Option Value)} {t0_SIZES : Tok} {t1_SIZES : Tok} {t2_SIZES : Tok} {t3_SIZES : Tok}
    {f_is_number : Addr} {od_is_number an_is_number : Option Addr} {sl_is_number : Array (Option Value)} {oc_is_number kV_is_number dc_is_number pm_is_number cd_is_number ct_is_number : Value}
    {f_size_of : Addr} {od_size_of an_size_of : Option Addr} {sl_size_of : Array (Option Value)} {oc_size_of kV_size_of dc_size_of pm_size_of cd_size_of ct_size_of : Value}
    {f_need_size : Addr} {od_need_size an_need_size : Option Addr} {sl_need_size : Array (Option Value)} {oc_need_size kV_need_size dc_need_size pm_need_size cd_need_size ct_need_size : Value}
    {f_need_turn : Addr} {od_need_turn an_need_turn : Option Addr} {sl_need_turn : Array (Option Value)} {oc_need_turn kV_need_turn dc_need_turn pm_need_turn cd_need_turn ct_need_turn : Value}
    {f_put : Addr} {od_put an_put : Option Addr} {sl_put : Array (Option Value)} {oc_put kV_put dc_put pm_put cd_put ct_put : Value}
    {f_back : Addr} {od_back an_back : Option Addr} {sl_back : Array (Option Value)} {oc_back kV_back dc_back pm_back cd_back ct_back : Value}
    {f_plain : Addr} {od_plain an_plain : Option Addr} {sl_plain : Array (Option Value)} {oc_plain kV_plain dc_plain pm_plain cd_plain ct_plain : Value}
    {f_need_group : Addr} {od_need_group an_need_group : Option Addr} {sl_need_group : Array (Option Value)} {oc_need_group kV_need_group dc_need_group pm_need_group cd_need_group ct_need_group : Value}
    {f_letters_of : Addr} {od_letters_of an_letters_of : Option Addr} {sl_letters_of : Array (Option Value)} {oc_letters_of kV_letters_of dc_letters_of pm_letters_of cd_letters_of ct_letters_of : Value}
    {f_next_row : Addr} {od_next_row an_next_row : Option Addr} {sl_next_row : Array (Option Value)} {oc_next_row kV_next_row dc_next_row pm_next_row cd_next_row ct_next_row : Value}
    {f_words_of : Addr} {od_words_of an_words_of : Option Addr} {sl_words_of : Array (Option Value)} {oc_words_of kV_words_of dc_words_of pm_words_of cd_words_of ct_words_of : Value}
    {f_few_and_all : Addr} {od_few_and_all an_few_and_all : Option Addr} {sl_few_and_all : Array (Option Value)} {oc_few_and_all kV_few_and_all dc_few_and_all pm_few_and_all cd_few_and_all ct_few_and_all : Value}
    {f_is_group : Addr} {od_is_group an_is_group : Option Addr} {sl_is_group : Array (Option Value)} {oc_is_group kV_is_group dc_is_group pm_is_group cd_is_group ct_is_group : Value}
    {f_lot_of : Addr} {od_lot_of an_lot_of : Option Addr} {sl_lot_of : Array (Option Value)} {oc_lot_of kV_lot_of dc_lot_of pm_lot_of cd_lot_of ct_lot_of : Value}
    {f_lot : Addr} {od_lot an_lot : Option Addr} {sl_lot : Array (Option Value)} {oc_lot kV_lot dc_lot pm_lot cd_lot ct_lot : Value}
    {f_lots : Addr} {od_lots an_lots : Option Addr} {sl_lots : Array (Option Value)} {oc_lots kV_lots dc_lots pm_lots cd_lots ct_lots : Value}
    {f_law_state : Addr} {od_law_state an_law_state : Option Addr} {sl_law_state : Array (Option Value)} {oc_law_state kV_law_state dc_law_state pm_law_state cd_law_state ct_law_state : Value}
    {f_law_draw : Addr} {od_law_draw an_law_draw : Option Addr} {sl_law_draw : Array (Option Value)} {oc_law_draw kV_law_draw dc_law_draw pm_law_draw cd_law_draw ct_law_draw : Value}
    {f_law_pick : Addr} {od_law_pick an_law_pick : Option Addr} {sl_law_pick : Array (Option Value)} {oc_law_pick kV_law_pick dc_law_pick pm_law_pick cd_law_pick ct_law_pick : Value}
    {f_law_mixed : Addr} {od_law_mixed an_law_mixed : Option Addr} {sl_law_mixed : Array (Option Value)} {oc_law_mixed kV_law_mixed dc_law_mixed pm_law_mixed cd_law_mixed ct_law_mixed : Value}
    {f_law_a_turn : Addr} {od_law_a_turn an_law_a_turn : Option Addr} {sl_law_a_turn : Array (Option Value)} {oc_law_a_turn kV_law_a_turn dc_law_a_turn pm_law_a_turn cd_law_a_turn ct_law_a_turn : Value}
    {f_law_into : Addr} {od_law_into an_law_into : Option Addr} {sl_law_into : Array (Option Value)} {oc_law_into kV_law_into dc_law_into pm_law_into cd_law_into ct_law_into : Value}
    {f_law_undone : Addr} {od_law_undone an_law_undone : Option Addr} {sl_law_undone : Array (Option Value)} {oc_law_undone kV_law_undone dc_law_undone pm_law_undone cd_law_undone ct_law_undone : Value}
    {f_law_closed : Addr} {od_law_closed an_law_closed : Option Addr} {sl_law_closed : Array (Option Value)} {oc_law_closed kV_law_closed dc_law_closed pm_law_closed cd_law_closed ct_law_closed : Value}
    {f_law_all : Addr} {od_law_all an_law_all : Option Addr} {sl_law_all : Array (Option Value)} {oc_law_all kV_law_all dc_law_all pm_law_all cd_law_all ct_law_all : Value}
    {f_law_done : Addr} {od_law_done an_law_done : Option Addr} {sl_law_done : Array (Option Value)} {oc_law_done kV_law_done dc_law_done pm_law_done cd_law_done ct_law_done : Value}
    {f_law_tried : Addr} {od_law_tried an_law_tried : Option Addr} {sl_law_tried : Array (Option Value)} {oc_law_tried kV_law_tried dc_law_tried pm_law_tried cd_law_tried ct_law_tried : Value}
    {f_law_refused : Addr} {od_law_refused an_law_refused : Option Addr} {sl_law_refused : Array (Option Value)} {oc_law_refused kV_law_refused dc_law_refused pm_law_refused cd_law_refused ct_law_refused : Value}
    {f_law_places : Addr} {od_law_places an_law_places : Option Addr} {sl_law_places : Array (Option Value)} {oc_law_places kV_law_places dc_law_places pm_law_places cd_law_places ct_law_places : Value}
    {f_law : Addr} {od_law an_law : Option Addr} {sl_law : Array (Option Value)} {oc_law kV_law dc_law pm_law cd_law ct_law : Value}
    (X : K.In h) (G : h.Ns mainGlobals mg) (hfa : mg "law" = some (.ref fa))
    (aC_CoatError : PySem.W.nsIn K mainGlobals "CoatError" = some (some (.ref C_CoatError)))
    (aC_NoSize : PySem.W.nsIn K mainGlobals "NoSize" = some (some (.ref C_NoSize)))
    (aC_NoTurn : PySem.W.nsIn K mainGlobals "NoTurn" = some (some (.ref C_NoTurn)))
    (aC_NoGroup : PySem.W.nsIn K mainGlobals "NoGroup" = some (some (.ref C_NoGroup)))
    (xC_NoSize : PySem.W.excIn K C_NoSize [.type "ValueError", .type "Exception", .type "BaseException", .type "object"] "ValueError.__new__" = true)
    (kC_NoSize : PySem.W.keepIn K (.ref C_NoSize) = true)
    (xC_NoTurn : PySem.W.excIn K C_NoTurn [.type "ValueError", .type "Exception", .type "BaseException", .type "object"] "ValueError.__new__" = true)
    (kC_NoTurn : PySem.W.keepIn K (.ref C_NoTurn) = true)
    (xC_NoGroup : PySem.W.excIn K C_NoGroup [.type "ValueError", .type "Exception", .type "BaseException", .type "object"] "ValueError.__new__" = true)
    (kC_NoGroup : PySem.W.keepIn K (.ref C_NoGroup) = true)
    (sC_CoatError : PySem.W.subIn K (.ref C_CoatError) (.type "BaseException") = some true)
    (tC_CoatError : PySem.W.typeIn K (.ref C_CoatError) = some (.type "type"))
    (iC_CoatError : PySem.W.isClsIn K C_CoatError = true)
    (sC_NoSize : PySem.W.subIn K (.ref C_NoSize) (.type "BaseException") = some true)
    (tC_NoSize : PySem.W.typeIn K (.ref C_NoSize) = some (.type "type"))
    (iC_NoSize : PySem.W.isClsIn K C_NoSize = true)
    (sC_NoTurn : PySem.W.subIn K (.ref C_NoTurn) (.type "BaseException") = some true)
    (tC_NoTurn : PySem.W.typeIn K (.ref C_NoTurn) = some (.type "type"))
    (iC_NoTurn : PySem.W.isClsIn K C_NoTurn = true)
    (sC_NoGroup : PySem.W.subIn K (.ref C_NoGroup) (.type "BaseException") = some true)
    (tC_NoGroup : PySem.W.typeIn K (.ref C_NoGroup) = some (.type "type"))
    (iC_NoGroup : PySem.W.isClsIn K C_NoGroup = true)
    (gC_NoSize : PySem.W.findIn K (.ref C_NoSize) "__getattribute__" = some (some (.builtin "BaseException.__getattribute__")))
    (qC_NoSize : PySem.W.findIn K (.ref C_NoSize) "__getattr__" = some none)
    (dC_NoSize : PySem.W.hasDictIn K C_NoSize = true)
    (lC_NoSize : PySem.W.findIn K (.ref C_NoSize) "__class__" = some (some (.builtin "object.__class__")))
    (mC_NoSize : PySem.W.mroIn K C_NoSize (.type "object") = some true)
    (vC_NoSize : PySem.W.subIn K (.ref C_NoSize) (.type "ValueError") = some true)
    (u_NoSize_CoatError : PySem.W.subIn K (.ref C_NoSize) (.ref C_CoatError) = some true)
    (u_NoSize_NoSize : PySem.W.subIn K (.ref C_NoSize) (.ref C_NoSize) = some true)
    (u_NoSize_NoTurn : PySem.W.subIn K (.ref C_NoSize) (.ref C_NoTurn) = some false)
    (u_NoSize_NoGroup : PySem.W.subIn K (.ref C_NoSize) (.ref C_NoGroup) = some false)
    (gC_NoTurn : PySem.W.findIn K (.ref C_NoTurn) "__getattribute__" = some (some (.builtin "BaseException.__getattribute__")))
    (qC_NoTurn : PySem.W.findIn K (.ref C_NoTurn) "__getattr__" = some none)
    (dC_NoTurn : PySem.W.hasDictIn K C_NoTurn = true)
    (lC_NoTurn : PySem.W.findIn K (.ref C_NoTurn) "__class__" = some (some (.builtin "object.__class__")))
    (mC_NoTurn : PySem.W.mroIn K C_NoTurn (.type "object") = some true)
    (vC_NoTurn : PySem.W.subIn K (.ref C_NoTurn) (.type "ValueError") = some true)
    (u_NoTurn_CoatError : PySem.W.subIn K (.ref C_NoTurn) (.ref C_CoatError) = some true)
    (u_NoTurn_NoSize : PySem.W.subIn K (.ref C_NoTurn) (.ref C_NoSize) = some false)
    (u_NoTurn_NoTurn : PySem.W.subIn K (.ref C_NoTurn) (.ref C_NoTurn) = some true)
    (u_NoTurn_NoGroup : PySem.W.subIn K (.ref C_NoTurn) (.ref C_NoGroup) = some false)
    (gC_NoGroup : PySem.W.findIn K (.ref C_NoGroup) "__getattribute__" = some (some (.builtin "BaseException.__getattribute__")))
    (qC_NoGroup : PySem.W.findIn K (.ref C_NoGroup) "__getattr__" = some none)
    (dC_NoGroup : PySem.W.hasDictIn K C_NoGroup = true)
    (lC_NoGroup : PySem.W.findIn K (.ref C_NoGroup) "__class__" = some (some (.builtin "object.__class__")))
    (mC_NoGroup : PySem.W.mroIn K C_NoGroup (.type "object") = some true)
    (vC_NoGroup : PySem.W.subIn K (.ref C_NoGroup) (.type "ValueError") = some true)
    (u_NoGroup_CoatError : PySem.W.subIn K (.ref C_NoGroup) (.ref C_CoatError) = some true)
    (u_NoGroup_NoSize : PySem.W.subIn K (.ref C_NoGroup) (.ref C_NoSize) = some false)
    (u_NoGroup_NoTurn : PySem.W.subIn K (.ref C_NoGroup) (.ref C_NoTurn) = some false)
    (u_NoGroup_NoGroup : PySem.W.subIn K (.ref C_NoGroup) (.ref C_NoGroup) = some true)
    (spG : PySem.W.specialIn K (.builtin "object.__class__") "__get__" = some (some (.builtin "getset_descriptor.__get__")))
    (tkG : PySem.W.takesIn K (.builtin "object.__class__") = some true)
    (aV_SIZES : PySem.W.nsIn K mainGlobals "SIZES" = some (some (.ref a_SIZES)))
    (lV_SIZES : K.lookup a_SIZES = some ⟨.type "tuple", none, .seq #[.int 2 t0_SIZES, .int 3 t1_SIZES, .int 4 t2_SIZES, .int 5 t3_SIZES] nz_SIZES, sl_SIZES⟩)
    (zt_permutations : PySem.W.nsIn K mainGlobals "permutations" = some (some (.type "itertools.permutations")))
    (z_ValueError : PySem.W.nsIn K mainGlobals "ValueError" = some none)
    (z_abs : PySem.W.nsIn K mainGlobals "abs" = some none)
    (z_all : PySem.W.nsIn K mainGlobals "all" = some none)
    (z_bool : PySem.W.nsIn K mainGlobals "bool" = some none)
    (z_enumerate : PySem.W.nsIn K mainGlobals "enumerate" = some none)
    (z_int : PySem.W.nsIn K mainGlobals "int" = some none)
    (z_isinstance : PySem.W.nsIn K mainGlobals "isinstance" = some none)
    (z_len : PySem.W.nsIn K mainGlobals "len" = some none)
    (z_list : PySem.W.nsIn K mainGlobals "list" = some none)
    (z_range : PySem.W.nsIn K mainGlobals "range" = some none)
    (z_sorted : PySem.W.nsIn K mainGlobals "sorted" = some none)
    (z_tuple : PySem.W.nsIn K mainGlobals "tuple" = some none)
    (a_is_number : PySem.W.nsIn K mainGlobals "is_number" = some (some (.ref f_is_number)))
    (l_is_number : K.lookup f_is_number = some ⟨oc_is_number, od_is_number, .func (PySem.W.fnOf "is_number" "is_number" (defArgs s_is_number) (defBody s_is_number) (defScope s_is_number) .none kV_is_number dc_is_number pm_is_number an_is_number cd_is_number ct_is_number), sl_is_number⟩)
    (c_is_number : PySem.W.codeIn K cd_is_number "is_number" = true)
    (k_is_number : PySem.W.keepIn K (.ref f_is_number) = true)
    (a_size_of : PySem.W.nsIn K mainGlobals "size_of" = some (some (.ref f_size_of)))
    (l_size_of : K.lookup f_size_of = some ⟨oc_size_of, od_size_of, .func (PySem.W.fnOf "size_of" "size_of" (defArgs s_size_of) (defBody s_size_of) (defScope s_size_of) .none kV_size_of dc_size_of pm_size_of an_size_of cd_size_of ct_size_of), sl_size_of⟩)
    (c_size_of : PySem.W.codeIn K cd_size_of "size_of" = true)
    (k_size_of : PySem.W.keepIn K (.ref f_size_of) = true)
    (a_need_size : PySem.W.nsIn K mainGlobals "need_size" = some (some (.ref f_need_size)))
    (l_need_size : K.lookup f_need_size = some ⟨oc_need_size, od_need_size, .func (PySem.W.fnOf "need_size" "need_size" (defArgs s_need_size) (defBody s_need_size) (defScope s_need_size) .none kV_need_size dc_need_size pm_need_size an_need_size cd_need_size ct_need_size), sl_need_size⟩)
    (c_need_size : PySem.W.codeIn K cd_need_size "need_size" = true)
    (k_need_size : PySem.W.keepIn K (.ref f_need_size) = true)
    (a_need_turn : PySem.W.nsIn K mainGlobals "need_turn" = some (some (.ref f_need_turn)))
    (l_need_turn : K.lookup f_need_turn = some ⟨oc_need_turn, od_need_turn, .func (PySem.W.fnOf "need_turn" "need_turn" (defArgs s_need_turn) (defBody s_need_turn) (defScope s_need_turn) .none kV_need_turn dc_need_turn pm_need_turn an_need_turn cd_need_turn ct_need_turn), sl_need_turn⟩)
    (c_need_turn : PySem.W.codeIn K cd_need_turn "need_turn" = true)
    (k_need_turn : PySem.W.keepIn K (.ref f_need_turn) = true)
    (a_put : PySem.W.nsIn K mainGlobals "put" = some (some (.ref f_put)))
    (l_put : K.lookup f_put = some ⟨oc_put, od_put, .func (PySem.W.fnOf "put" "put" (defArgs s_put) (defBody s_put) (defScope s_put) .none kV_put dc_put pm_put an_put cd_put ct_put), sl_put⟩)
    (c_put : PySem.W.codeIn K cd_put "put" = true)
    (k_put : PySem.W.keepIn K (.ref f_put) = true)
    (a_back : PySem.W.nsIn K mainGlobals "back" = some (some (.ref f_back)))
    (l_back : K.lookup f_back = some ⟨oc_back, od_back, .func (PySem.W.fnOf "back" "back" (defArgs s_back) (defBody s_back) (defScope s_back) .none kV_back dc_back pm_back an_back cd_back ct_back), sl_back⟩)
    (c_back : PySem.W.codeIn K cd_back "back" = true)
    (k_back : PySem.W.keepIn K (.ref f_back) = true)
    (a_plain : PySem.W.nsIn K mainGlobals "plain" = some (some (.ref f_plain)))
    (l_plain : K.lookup f_plain = some ⟨oc_plain, od_plain, .func (PySem.W.fnOf "plain" "plain" (defArgs s_plain) (defBody s_plain) (defScope s_plain) .none kV_plain dc_plain pm_plain an_plain cd_plain ct_plain), sl_plain⟩)
    (c_plain : PySem.W.codeIn K cd_plain "plain" = true)
    (k_plain : PySem.W.keepIn K (.ref f_plain) = true)
    (a_need_group : PySem.W.nsIn K mainGlobals "need_group" = some (some (.ref f_need_group)))
    (l_need_group : K.lookup f_need_group = some ⟨oc_need_group, od_need_group, .func (PySem.W.fnOf "need_group" "need_group" (defArgs s_need_group) (defBody s_need_group) (defScope s_need_group) .none kV_need_group dc_need_group pm_need_group an_need_group cd_need_group ct_need_group), sl_need_group⟩)
    (c_need_group : PySem.W.codeIn K cd_need_group "need_group" = true)
    (k_need_group : PySem.W.keepIn K (.ref f_need_group) = true)
    (a_letters_of : PySem.W.nsIn K mainGlobals "letters_of" = some (some (.ref f_letters_of)))
    (l_letters_of : K.lookup f_letters_of = some ⟨oc_letters_of, od_letters_of, .func (PySem.W.fnOf "letters_of" "letters_of" (defArgs s_letters_of) (defBody s_letters_of) (defScope s_letters_of) .none kV_letters_of dc_letters_of pm_letters_of an_letters_of cd_letters_of ct_letters_of), sl_letters_of⟩)
    (c_letters_of : PySem.W.codeIn K cd_letters_of "letters_of" = true)
    (k_letters_of : PySem.W.keepIn K (.ref f_letters_of) = true)
    (a_next_row : PySem.W.nsIn K mainGlobals "next_row" = some (some (.ref f_next_row)))
    (l_next_row : K.lookup f_next_row = some ⟨oc_next_row, od_next_row, .func (PySem.W.fnOf "next_row" "next_row" (defArgs s_next_row) (defBody s_next_row) (defScope s_next_row) .none kV_next_row dc_next_row pm_next_row an_next_row cd_next_row ct_next_row), sl_next_row⟩)
    (c_next_row : PySem.W.codeIn K cd_next_row "next_row" = true)
    (k_next_row : PySem.W.keepIn K (.ref f_next_row) = true)
    (a_words_of : PySem.W.nsIn K mainGlobals "words_of" = some (some (.ref f_words_of)))
    (l_words_of : K.lookup f_words_of = some ⟨oc_words_of, od_words_of, .func (PySem.W.fnOf "words_of" "words_of" (defArgs s_words_of) (defBody s_words_of) (defScope s_words_of) .none kV_words_of dc_words_of pm_words_of an_words_of cd_words_of ct_words_of), sl_words_of⟩)
    (c_words_of : PySem.W.codeIn K cd_words_of "words_of" = true)
    (k_words_of : PySem.W.keepIn K (.ref f_words_of) = true)
    (a_few_and_all : PySem.W.nsIn K mainGlobals "few_and_all" = some (some (.ref f_few_and_all)))
    (l_few_and_all : K.lookup f_few_and_all = some ⟨oc_few_and_all, od_few_and_all, .func (PySem.W.fnOf "few_and_all" "few_and_all" (defArgs s_few_and_all) (defBody s_few_and_all) (defScope s_few_and_all) .none kV_few_and_all dc_few_and_all pm_few_and_all an_few_and_all cd_few_and_all ct_few_and_all), sl_few_and_all⟩)
    (c_few_and_all : PySem.W.codeIn K cd_few_and_all "few_and_all" = true)
    (k_few_and_all : PySem.W.keepIn K (.ref f_few_and_all) = true)
    (a_is_group : PySem.W.nsIn K mainGlobals "is_group" = some (some (.ref f_is_group)))
    (l_is_group : K.lookup f_is_group = some ⟨oc_is_group, od_is_group, .func (PySem.W.fnOf "is_group" "is_group" (defArgs s_is_group) (defBody s_is_group) (defScope s_is_group) .none kV_is_group dc_is_group pm_is_group an_is_group cd_is_group ct_is_group), sl_is_group⟩)
    (c_is_group : PySem.W.codeIn K cd_is_group "is_group" = true)
    (k_is_group : PySem.W.keepIn K (.ref f_is_group) = true)
    (a_lot_of : PySem.W.nsIn K mainGlobals "lot_of" = some (some (.ref f_lot_of)))
    (l_lot_of : K.lookup f_lot_of = some ⟨oc_lot_of, od_lot_of, .func (PySem.W.fnOf "lot_of" "lot_of" (defArgs s_lot_of) (defBody s_lot_of) (defScope s_lot_of) .none kV_lot_of dc_lot_of pm_lot_of an_lot_of cd_lot_of ct_lot_of), sl_lot_of⟩)
    (c_lot_of : PySem.W.codeIn K cd_lot_of "lot_of" = true)
    (k_lot_of : PySem.W.keepIn K (.ref f_lot_of) = true)
    (a_lot : PySem.W.nsIn K mainGlobals "lot" = some (some (.ref f_lot)))
    (l_lot : K.lookup f_lot = some ⟨oc_lot, od_lot, .func (PySem.W.fnOf "lot" "lot" (defArgs s_lot) (defBody s_lot) (defScope s_lot) .none kV_lot dc_lot pm_lot an_lot cd_lot ct_lot), sl_lot⟩)
    (c_lot : PySem.W.codeIn K cd_lot "lot" = true)
    (k_lot : PySem.W.keepIn K (.ref f_lot) = true)
    (a_lots : PySem.W.nsIn K mainGlobals "lots" = some (some (.ref f_lots)))
    (l_lots : K.lookup f_lots = some ⟨oc_lots, od_lots, .func (PySem.W.fnOf "lots" "lots" (defArgs s_lots) (defBody s_lots) (defScope s_lots) .none kV_lots dc_lots pm_lots an_lots cd_lots ct_lots), sl_lots⟩)
    (c_lots : PySem.W.codeIn K cd_lots "lots" = true)
    (k_lots : PySem.W.keepIn K (.ref f_lots) = true)
    (a_law_state : PySem.W.nsIn K mainGlobals "_law_state" = some (some (.ref f_law_state)))
    (l_law_state : K.lookup f_law_state = some ⟨oc_law_state, od_law_state, .func (PySem.W.fnOf "_law_state" "_law_state" (defArgs s_law_state) (defBody s_law_state) (defScope s_law_state) .none kV_law_state dc_law_state pm_law_state an_law_state cd_law_state ct_law_state), sl_law_state⟩)
    (c_law_state : PySem.W.codeIn K cd_law_state "_law_state" = true)
    (k_law_state : PySem.W.keepIn K (.ref f_law_state) = true)
    (a_law_draw : PySem.W.nsIn K mainGlobals "_law_draw" = some (some (.ref f_law_draw)))
    (l_law_draw : K.lookup f_law_draw = some ⟨oc_law_draw, od_law_draw, .func (PySem.W.fnOf "_law_draw" "_law_draw" (defArgs s_law_draw) (defBody s_law_draw) (defScope s_law_draw) .none kV_law_draw dc_law_draw pm_law_draw an_law_draw cd_law_draw ct_law_draw), sl_law_draw⟩)
    (c_law_draw : PySem.W.codeIn K cd_law_draw "_law_draw" = true)
    (k_law_draw : PySem.W.keepIn K (.ref f_law_draw) = true)
    (a_law_pick : PySem.W.nsIn K mainGlobals "_law_pick" = some (some (.ref f_law_pick)))
    (l_law_pick : K.lookup f_law_pick = some ⟨oc_law_pick, od_law_pick, .func (PySem.W.fnOf "_law_pick" "_law_pick" (defArgs s_law_pick) (defBody s_law_pick) (defScope s_law_pick) .none kV_law_pick dc_law_pick pm_law_pick an_law_pick cd_law_pick ct_law_pick), sl_law_pick⟩)
    (c_law_pick : PySem.W.codeIn K cd_law_pick "_law_pick" = true)
    (k_law_pick : PySem.W.keepIn K (.ref f_law_pick) = true)
    (a_law_mixed : PySem.W.nsIn K mainGlobals "_law_mixed" = some (some (.ref f_law_mixed)))
    (l_law_mixed : K.lookup f_law_mixed = some ⟨oc_law_mixed, od_law_mixed, .func (PySem.W.fnOf "_law_mixed" "_law_mixed" (defArgs s_law_mixed) (defBody s_law_mixed) (defScope s_law_mixed) .none kV_law_mixed dc_law_mixed pm_law_mixed an_law_mixed cd_law_mixed ct_law_mixed), sl_law_mixed⟩)
    (c_law_mixed : PySem.W.codeIn K cd_law_mixed "_law_mixed" = true)
    (k_law_mixed : PySem.W.keepIn K (.ref f_law_mixed) = true)
    (a_law_a_turn : PySem.W.nsIn K mainGlobals "_law_a_turn" = some (some (.ref f_law_a_turn)))
    (l_law_a_turn : K.lookup f_law_a_turn = some ⟨oc_law_a_turn, od_law_a_turn, .func (PySem.W.fnOf "_law_a_turn" "_law_a_turn" (defArgs s_law_a_turn) (defBody s_law_a_turn) (defScope s_law_a_turn) .none kV_law_a_turn dc_law_a_turn pm_law_a_turn an_law_a_turn cd_law_a_turn ct_law_a_turn), sl_law_a_turn⟩)
    (c_law_a_turn : PySem.W.codeIn K cd_law_a_turn "_law_a_turn" = true)
    (k_law_a_turn : PySem.W.keepIn K (.ref f_law_a_turn) = true)
    (a_law_into : PySem.W.nsIn K mainGlobals "_law_into" = some (some (.ref f_law_into)))
    (l_law_into : K.lookup f_law_into = some ⟨oc_law_into, od_law_into, .func (PySem.W.fnOf "_law_into" "_law_into" (defArgs s_law_into) (defBody s_law_into) (defScope s_law_into) .none kV_law_into dc_law_into pm_law_into an_law_into cd_law_into ct_law_into), sl_law_into⟩)
    (c_law_into : PySem.W.codeIn K cd_law_into "_law_into" = true)
    (k_law_into : PySem.W.keepIn K (.ref f_law_into) = true)
    (a_law_undone : PySem.W.nsIn K mainGlobals "_law_undone" = some (some (.ref f_law_undone)))
    (l_law_undone : K.lookup f_law_undone = some ⟨oc_law_undone, od_law_undone, .func (PySem.W.fnOf "_law_undone" "_law_undone" (defArgs s_law_undone) (defBody s_law_undone) (defScope s_law_undone) .none kV_law_undone dc_law_undone pm_law_undone an_law_undone cd_law_undone ct_law_undone), sl_law_undone⟩)
    (c_law_undone : PySem.W.codeIn K cd_law_undone "_law_undone" = true)
    (k_law_undone : PySem.W.keepIn K (.ref f_law_undone) = true)
    (a_law_closed : PySem.W.nsIn K mainGlobals "_law_closed" = some (some (.ref f_law_closed)))
    (l_law_closed : K.lookup f_law_closed = some ⟨oc_law_closed, od_law_closed, .func (PySem.W.fnOf "_law_closed" "_law_closed" (defArgs s_law_closed) (defBody s_law_closed) (defScope s_law_closed) .none kV_law_closed dc_law_closed pm_law_closed an_law_closed cd_law_closed ct_law_closed), sl_law_closed⟩)
    (c_law_closed : PySem.W.codeIn K cd_law_closed "_law_closed" = true)
    (k_law_closed : PySem.W.keepIn K (.ref f_law_closed) = true)
    (a_law_all : PySem.W.nsIn K mainGlobals "_law_all" = some (some (.ref f_law_all)))
    (l_law_all : K.lookup f_law_all = some ⟨oc_law_all, od_law_all, .func (PySem.W.fnOf "_law_all" "_law_all" (defArgs s_law_all) (defBody s_law_all) (defScope s_law_all) .none kV_law_all dc_law_all pm_law_all an_law_all cd_law_all ct_law_all), sl_law_all⟩)
    (c_law_all : PySem.W.codeIn K cd_law_all "_law_all" = true)
    (k_law_all : PySem.W.keepIn K (.ref f_law_all) = true)
    (a_law_done : PySem.W.nsIn K mainGlobals "_law_done" = some (some (.ref f_law_done)))
    (l_law_done : K.lookup f_law_done = some ⟨oc_law_done, od_law_done, .func (PySem.W.fnOf "_law_done" "_law_done" (defArgs s_law_done) (defBody s_law_done) (defScope s_law_done) .none kV_law_done dc_law_done pm_law_done an_law_done cd_law_done ct_law_done), sl_law_done⟩)
    (c_law_done : PySem.W.codeIn K cd_law_done "_law_done" = true)
    (k_law_done : PySem.W.keepIn K (.ref f_law_done) = true)
    (a_law_tried : PySem.W.nsIn K mainGlobals "_law_tried" = some (some (.ref f_law_tried)))
    (l_law_tried : K.lookup f_law_tried = some ⟨oc_law_tried, od_law_tried, .func (PySem.W.fnOf "_law_tried" "_law_tried" (defArgs s_law_tried) (defBody s_law_tried) (defScope s_law_tried) .none kV_law_tried dc_law_tried pm_law_tried an_law_tried cd_law_tried ct_law_tried), sl_law_tried⟩)
    (c_law_tried : PySem.W.codeIn K cd_law_tried "_law_tried" = true)
    (k_law_tried : PySem.W.keepIn K (.ref f_law_tried) = true)
    (a_law_refused : PySem.W.nsIn K mainGlobals "_law_refused" = some (some (.ref f_law_refused)))
    (l_law_refused : K.lookup f_law_refused = some ⟨oc_law_refused, od_law_refused, .func (PySem.W.fnOf "_law_refused" "_law_refused" (defArgs s_law_refused) (defBody s_law_refused) (defScope s_law_refused) .none kV_law_refused dc_law_refused pm_law_refused an_law_refused cd_law_refused ct_law_refused), sl_law_refused⟩)
    (c_law_refused : PySem.W.codeIn K cd_law_refused "_law_refused" = true)
    (k_law_refused : PySem.W.keepIn K (.ref f_law_refused) = true)
    (a_law_places : PySem.W.nsIn K mainGlobals "_law_places" = some (some (.ref f_law_places)))
    (l_law_places : K.lookup f_law_places = some ⟨oc_law_places, od_law_places, .func (PySem.W.fnOf "_law_places" "_law_places" (defArgs s_law_places) (defBody s_law_places) (defScope s_law_places) .none kV_law_places dc_law_places pm_law_places an_law_places cd_law_places ct_law_places), sl_law_places⟩)
    (c_law_places : PySem.W.codeIn K cd_law_places "_law_places" = true)
    (k_law_places : PySem.W.keepIn K (.ref f_law_places) = true)
    (a_law : PySem.W.nsIn K mainGlobals "law" = some (some (.ref f_law)))
    (l_law : K.lookup f_law = some ⟨oc_law, od_law, .func (PySem.W.fnOf "law" "law" (defArgs s_law) (defBody s_law) (defScope s_law) .none kV_law dc_law pm_law an_law cd_law ct_law), sl_law⟩)
    (c_law : PySem.W.codeIn K cd_law "law" = true)
    (k_law : PySem.W.keepIn K (.ref f_law) = true)
    : ∃ fd : FuncData, (∀ (s : Shared) (u : Value), BindsTo s fd ⟨[u], []⟩ [("script", u)]) ∧ ∀ base : Heap, K.In base → base.Ns mainGlobals mg → FnOk P w K mg base (L2.CX P w) 12 fa fd ["script"] (spLaw K) := by
  have e := hfa.symm.trans (PySem.W.mg_of X G a_law)
  cases e
  let A : Adr := ⟨C_CoatError, C_NoSize, C_NoTurn, C_NoGroup⟩
  let F : Fns := ⟨f_is_number, f_size_of, f_need_size, f_need_turn, f_put, f_back, f_plain, f_need_group, f_letters_of, f_next_row, f_words_of, f_few_and_all, f_is_group, f_lot_of, f_lot, f_lots, f_law_state, f_law_draw, f_law_pick, f_law_mixed, f_law_a_turn, f_law_into, f_law_undone, f_law_closed, f_law_all, f_law_done, f_law_tried, f_law_refused, f_law_places, fa, a_SIZES⟩
  have T : Txt K mg A F := { b_ValueError := PySem.W.mg_none_of X G z_ValueError, b_abs := PySem.W.mg_none_of X G z_abs, b_all := PySem.W.mg_none_of X G z_all, b_bool := PySem.W.mg_none_of X G z_bool, b_enumerate := PySem.W.mg_none_of X G z_enumerate, b_int := PySem.W.mg_none_of X G z_int, b_isinstance := PySem.W.mg_none_of X G z_isinstance, b_len := PySem.W.mg_none_of X G z_len, b_list := PySem.W.mg_none_of X G z_list, b_range := PySem.W.mg_none_of X G z_range, b_sorted := PySem.W.mg_none_of X G z_sorted, b_tuple := PySem.W.mg_none_of X G z_tuple, t_permutations := PySem.W.mg_of X G zt_permutations, g_CoatError := PySem.W.mg_of X G aC_CoatError, g_NoSize := PySem.W.mg_of X G aC_NoSize, x_NoSize := xC_NoSize, k_NoSize := kC_NoSize, s_NoSize := sC_NoSize, t_NoSize := tC_NoSize, g_NoTurn := PySem.W.mg_of X G aC_NoTurn, x_NoTurn := xC_NoTurn, k_NoTurn := kC_NoTurn, s_NoTurn := sC_NoTurn, t_NoTurn := tC_NoTurn, g_NoGroup := PySem.W.mg_of X G aC_NoGroup, x_NoGroup := xC_NoGroup, k_NoGroup := kC_NoGroup, s_NoGroup := sC_NoGroup, t_NoGroup := tC_NoGroup, g_SIZES := PySem.W.mg_of X G aV_SIZES, d_SIZES := fun S α G => Is.tup (xs := [.int 2, .int 3, .int 4, .int 5]) (.inr ⟨_, _, _, lV_SIZES, rfl, rfl, rfl, by show 4 ≤ sizeLine; decide, (.cons ⟨_, rfl⟩ (.cons ⟨_, rfl⟩ (.cons ⟨_, rfl⟩ (.cons ⟨_, rfl⟩ .nil))))⟩) (.cons (.int _) (.cons (.int _) (.cons (.int _) (.cons (.int _) .nil)))), g_is_number := PySem.W.mg_of X G a_is_number, k_is_number := k_is_number, g_size_of := PySem.W.mg_of X G a_size_of, k_size_of := k_size_of, g_need_size := PySem.W.mg_of X G a_need_size, k_need_size := k_need_size, g_need_turn := PySem.W.mg_of X G a_need_turn, k_need_turn := k_need_turn, g_put := PySem.W.mg_of X G a_put, k_put := k_put, g_back := PySem.W.mg_of X G a_back, k_back := k_back, g_plain := PySem.W.mg_of X G a_plain, k_plain := k_plain, g_need_group := PySem.W.mg_of X G a_need_group, k_need_group := k_need_group, g_letters_of := PySem.W.mg_of X G a_letters_of, k_letters_of := k_letters_of, g_next_row := PySem.W.mg_of X G a_next_row, k_next_row := k_next_row, g_words_of := PySem.W.mg_of X G a_words_of, k_words_of := k_words_of, g_few_and_all := PySem.W.mg_of X G a_few_and_all, k_few_and_all := k_few_and_all, g_is_group := PySem.W.mg_of X G a_is_group, k_is_group := k_is_group, g_lot_of := PySem.W.mg_of X G a_lot_of, k_lot_of := k_lot_of, g_lot := PySem.W.mg_of X G a_lot, k_lot := k_lot, g_lots := PySem.W.mg_of X G a_lots, k_lots := k_lots, g__law_state := PySem.W.mg_of X G a_law_state, k__law_state := k_law_state, g__law_draw := PySem.W.mg_of X G a_law_draw, k__law_draw := k_law_draw, g__law_pick := PySem.W.mg_of X G a_law_pick, k__law_pick := k_law_pick, g__law_mixed := PySem.W.mg_of X G a_law_mixed, k__law_mixed := k_law_mixed, g__law_a_turn := PySem.W.mg_of X G a_law_a_turn, k__law_a_turn := k_law_a_turn, g__law_into := PySem.W.mg_of X G a_law_into, k__law_into := k_law_into, g__law_undone := PySem.W.mg_of X G a_law_undone, k__law_undone := k_law_undone, g__law_closed := PySem.W.mg_of X G a_law_closed, k__law_closed := k_law_closed, g__law_all := PySem.W.mg_of X G a_law_all, k__law_all := k_law_all, g__law_done := PySem.W.mg_of X G a_law_done, k__law_done := k_law_done, g__law_tried := PySem.W.mg_of X G a_law_tried, k__law_tried := k_law_tried, g__law_refused := PySem.W.mg_of X G a_law_refused, k__law_refused := k_law_refused, g__law_places := PySem.W.mg_of X G a_law_places, k__law_places := k_law_places, g_law := PySem.W.mg_of X G a_law, k_law := k_law }
  have X1 : ExF K A := { m_size := exm_mk sC_CoatError iC_CoatError tC_CoatError u_NoSize_CoatError, m_turn := exm_mk sC_CoatError iC_CoatError tC_CoatError u_NoTurn_CoatError, x_size := ⟨gC_NoSize, qC_NoSize, sC_NoSize, dC_NoSize, lC_NoSize, spG, tkG, mC_NoSize⟩, x_turn := ⟨gC_NoTurn, qC_NoTurn, sC_NoTurn, dC_NoTurn, lC_NoTurn, spG, tkG, mC_NoTurn⟩, k_ss := kit_mk iC_NoSize tC_NoSize u_NoSize_NoSize u_NoSize_NoSize, k_st := kit_mk iC_NoTurn tC_NoTurn u_NoSize_NoTurn u_NoSize_NoSize, k_sg := kit_mk iC_NoGroup tC_NoGroup u_NoSize_NoGroup u_NoSize_NoSize, k_sv := kitV_mk vC_NoSize, k_ts := kit_mk iC_NoSize tC_NoSize u_NoTurn_NoSize u_NoTurn_NoTurn, k_tt := kit_mk iC_NoTurn tC_NoTurn u_NoTurn_NoTurn u_NoTurn_NoTurn, k_tg := kit_mk iC_NoGroup tC_NoGroup u_NoTurn_NoGroup u_NoTurn_NoTurn, k_tv := kitV_mk vC_NoTurn }
  have X0 : EX5 K A := ⟨X1, exm_mk sC_CoatError iC_CoatError tC_CoatError u_NoGroup_CoatError, ⟨gC_NoGroup, qC_NoGroup, sC_NoGroup, dC_NoGroup, lC_NoGroup, spG, tkG, mC_NoGroup⟩, kit_mk iC_NoSize tC_NoSize u_NoGroup_NoSize u_NoGroup_NoGroup, kit_mk iC_NoTurn tC_NoTurn u_NoGroup_NoTurn u_NoGroup_NoGroup, kit_mk iC_NoGroup tC_NoGroup u_NoGroup_NoGroup u_NoGroup_NoGroup, kitV_mk vC_NoGroup⟩
  have F_law_state := fun_mk (st := s_law_state) l_law_state c_law_state k_law_state
  have B_law_state := F_law_state.binds (ps := ["script"]) fun _ _ _ _ _ _ us hl => match us, hl with | [_], _ => rfl
  have G_law_state := fun (base : Heap) => ok_law_state (P := P) (w := w) (base := base) T F_law_state  (pure_law_state K A)
  have F_law_into := fun_mk (st := s_law_into) l_law_into c_law_into k_law_into
  have B_law_into := F_law_into.binds (ps := ["one", "other"]) fun _ _ _ _ _ _ us hl => match us, hl with | [_, _], _ => rfl
  have G_law_into := fun (base : Heap) => ok_law_into (P := P) (w := w) (base := base) T F_law_into  (pure_law_into K A)
  have F_law_closed := fun_mk (st := s_law_closed) l_law_closed c_law_closed k_law_closed
  have B_law_closed := F_law_closed.binds (ps := ["turns", "size"]) fun _ _ _ _ _ _ us hl => match us, hl with | [_, _], _ => rfl
  have G_law_closed := fun (base : Heap) => ok_law_closed (P := P) (w := w) (base := base) T F_law_closed (G_law_into base) B_law_into (pure_law_closed K A)
  have F_is_number := fun_mk (st := s_is_number) l_is_number c_is_number k_is_number
  have B_is_number := F_is_number.binds (ps := ["thing"]) fun _ _ _ _ _ _ us hl => match us, hl with | [_], _ => rfl
  have G_is_number := fun (base : Heap) => ok_is_number (P := P) (w := w) (base := base) T F_is_number  (pure_is_number K A)
  have F_need_size := fun_mk (st := s_need_size) l_need_size c_need_size k_need_size
  have B_need_size := F_need_size.binds (ps := ["size"]) fun _ _ _ _ _ _ us hl => match us, hl with | [_], _ => rfl
  have G_need_size := fun (base : Heap) => ok_need_size (P := P) (w := w) (base := base) T F_need_size (G_is_number base) B_is_number (pure_need_size K A)
  have F_plain := fun_mk (st := s_plain) l_plain c_plain k_plain
  have B_plain := F_plain.binds (ps := ["size"]) fun _ _ _ _ _ _ us hl => match us, hl with | [_], _ => rfl
  have G_plain := fun (base : Heap) => ok_plain (P := P) (w := w) (base := base) T F_plain (G_need_size base) B_need_size (pure_plain K A)
  have F_back := fun_mk (st := s_back) l_back c_back k_back
  have B_back := F_back.binds (ps := ["turn"]) fun _ _ _ _ _ _ us hl => match us, hl with | [_], _ => rfl
  have G_back := fun (base : Heap) => ok_back (P := P) (w := w) (base := base) T F_back  (pure_back K A)
  have F_letters_of := fun_mk (st := s_letters_of) l_letters_of c_letters_of k_letters_of
  have B_letters_of := F_letters_of.binds (ps := ["turns"]) fun _ _ _ _ _ _ us hl => match us, hl with | [_], _ => rfl
  have G_letters_of := fun (base : Heap) => ok_letters_of (P := P) (w := w) (base := base) T F_letters_of (G_back base) B_back (pure_letters_of K A)
  have F_put := fun_mk (st := s_put) l_put c_put k_put
  have B_put := F_put.binds (ps := ["one", "other"]) fun _ _ _ _ _ _ us hl => match us, hl with | [_, _], _ => rfl
  have G_put := fun (base : Heap) => ok_put (P := P) (w := w) (base := base) T F_put  (pure_put K A)
  have F_next_row := fun_mk (st := s_next_row) l_next_row c_next_row k_next_row
  have B_next_row := F_next_row.binds (ps := ["row", "words", "letters"]) fun _ _ _ _ _ _ us hl => match us, hl with | [_, _, _], _ => rfl
  have G_next_row := fun (base : Heap) => ok_next_row (P := P) (w := w) (base := base) T F_next_row (G_put base) B_put (pure_next_row K A)
  have F_words_of := fun_mk (st := s_words_of) l_words_of c_words_of k_words_of
  have B_words_of := F_words_of.binds (ps := ["turns", "size"]) fun _ _ _ _ _ _ us hl => match us, hl with | [_, _], _ => rfl
  have G_words_of := fun (base : Heap) => ok_words_of (P := P) (w := w) (base := base) T F_words_of (G_letters_of base) B_letters_of (G_plain base) B_plain (G_next_row base) B_next_row (pure_words_of K A)
  have F_few_and_all := fun_mk (st := s_few_and_all) l_few_and_all c_few_and_all k_few_and_all
  have B_few_and_all := F_few_and_all.binds (ps := ["turns", "size"]) fun _ _ _ _ _ _ us hl => match us, hl with | [_, _], _ => rfl
  have G_few_and_all := fun (base : Heap) => ok_few_and_all (P := P) (w := w) (base := base) T F_few_and_all (G_plain base) B_plain (G_words_of base) B_words_of (pure_few_and_all K A)
  have F_size_of := fun_mk (st := s_size_of) l_size_of c_size_of k_size_of
  have B_size_of := F_size_of.binds (ps := ["thing"]) fun _ _ _ _ _ _ us hl => match us, hl with | [_], _ => rfl
  have G_size_of := fun (base : Heap) => ok_size_of (P := P) (w := w) (base := base) T F_size_of (G_is_number base) B_is_number (pure_size_of K A)
  have F_is_group := fun_mk (st := s_is_group) l_is_group c_is_group k_is_group
  have B_is_group := F_is_group.binds (ps := ["thing", "size"]) fun _ _ _ _ _ _ us hl => match us, hl with | [_, _], _ => rfl
  have G_is_group := fun (base : Heap) => ok_is_group (P := P) (w := w) (base := base) T F_is_group (G_need_size base) B_need_size (G_few_and_all base) B_few_and_all (G_size_of base) B_size_of (pure_is_group K A)
  have F_need_group := fun_mk (st := s_need_group) l_need_group c_need_group k_need_group
  have B_need_group := F_need_group.binds (ps := ["group", "sizes"]) fun _ _ _ _ _ _ us hl => match us, hl with | [_, _], _ => rfl
  have G_need_group := fun (base : Heap) => ok_need_group (P := P) (w := w) (base := base) T F_need_group (G_is_group base) B_is_group (pure_need_group K A)
  have F_lot_of := fun_mk (st := s_lot_of) l_lot_of c_lot_of k_lot_of
  have B_lot_of := F_lot_of.binds (ps := ["turn", "group"]) fun _ _ _ _ _ _ us hl => match us, hl with | [_, _], _ => rfl
  have G_lot_of := fun (base : Heap) => ok_lot_of (P := P) (w := w) (base := base) T F_lot_of (G_put base) B_put (pure_lot_of K A)
  have F_lots := fun_mk (st := s_lots) l_lots c_lots k_lots
  have B_lots := F_lots.binds (ps := ["group", "size"]) fun _ _ _ _ _ _ us hl => match us, hl with | [_, _], _ => rfl
  have G_lots := fun (base : Heap) => ok_lots (P := P) (w := w) (base := base) T F_lots (G_need_size base) B_need_size (G_need_group base) B_need_group (G_lot_of base) B_lot_of (pure_lots K A)
  have F_law_places := fun_mk (st := s_law_places) l_law_places c_law_places k_law_places
  have B_law_places := F_law_places.binds (ps := ["found"]) fun _ _ _ _ _ _ us hl => match us, hl with | [_], _ => rfl
  have G_law_places := fun (base : Heap) => ok_law_places (P := P) (w := w) (base := base) T F_law_places  (pure_law_places K A)
  have F_law_draw := fun_mk (st := s_law_draw) l_law_draw c_law_draw k_law_draw
  have B_law_draw := F_law_draw.binds (ps := ["state", "many"]) fun _ _ _ _ _ _ us hl => match us, hl with | [_, _], _ => rfl
  have G_law_draw := fun (base : Heap) => ok_law_draw (P := P) (w := w) (base := base) T F_law_draw
  have F_law_mixed := fun_mk (st := s_law_mixed) l_law_mixed c_law_mixed k_law_mixed
  have B_law_mixed := F_law_mixed.binds (ps := ["state", "some"]) fun _ _ _ _ _ _ us hl => match us, hl with | [_, _], _ => rfl
  have G_law_mixed := fun (base : Heap) => ok_law_mixed (P := P) (w := w) (base := base) T F_law_mixed (G_law_draw base) B_law_draw (pure_law_mixed K A)
  have F_law_a_turn := fun_mk (st := s_law_a_turn) l_law_a_turn c_law_a_turn k_law_a_turn
  have B_law_a_turn := F_law_a_turn.binds (ps := ["state", "size"]) fun _ _ _ _ _ _ us hl => match us, hl with | [_, _], _ => rfl
  have G_law_a_turn := fun (base : Heap) => ok_law_a_turn (P := P) (w := w) (base := base) T F_law_a_turn (G_law_draw base) B_law_draw (G_law_mixed base) B_law_mixed (pure_law_a_turn K A)
  have F_law_pick := fun_mk (st := s_law_pick) l_law_pick c_law_pick k_law_pick
  have B_law_pick := F_law_pick.binds (ps := ["state", "some"]) fun _ _ _ _ _ _ us hl => match us, hl with | [_, _], _ => rfl
  have G_law_pick := fun (base : Heap) => ok_law_pick (P := P) (w := w) (base := base) T F_law_pick (G_law_draw base) B_law_draw (pure_law_pick K A)
  have F_need_turn := fun_mk (st := s_need_turn) l_need_turn c_need_turn k_need_turn
  have B_need_turn := F_need_turn.binds (ps := ["turn"]) fun _ _ _ _ _ _ us hl => match us, hl with | [_], _ => rfl
  have G_need_turn := fun (base : Heap) => ok_need_turn (P := P) (w := w) (base := base) T F_need_turn (G_size_of base) B_size_of (pure_need_turn K A)
  have F_lot := fun_mk (st := s_lot) l_lot c_lot k_lot
  have B_lot := F_lot.binds (ps := ["turn", "group"]) fun _ _ _ _ _ _ us hl => match us, hl with | [_, _], _ => rfl
  have G_lot := fun (base : Heap) => ok_lot (P := P) (w := w) (base := base) T F_lot (G_need_turn base) B_need_turn (G_need_group base) B_need_group (G_lot_of base) B_lot_of (pure_lot K A)
  have F_law_done := fun_mk (st := s_law_done) l_law_done c_law_done k_law_done
  have B_law_done := F_law_done.binds (ps := ["way", "one", "other"]) fun _ _ _ _ _ _ us hl => match us, hl with | [_, _, _], _ => rfl
  have G_law_done := fun (base : Heap) => ok_law_done (P := P) (w := w) (base := base) T F_law_done (G_lot base) B_lot (G_lots base) B_lots (pure_law_done K A)
  have F_law_tried := fun_mk (st := s_law_tried) l_law_tried c_law_tried k_law_tried
  have B_law_tried := F_law_tried.binds (ps := ["way", "one", "other"]) fun _ _ _ _ _ _ us hl => match us, hl with | [_, _, _], _ => rfl
  have G_law_tried := fun (base : Heap) => ok_law_tried (P := P) (w := w) (base := base) T F_law_tried (G_law_done base) B_law_done (pure_law_tried K A X0)
  have F_law_refused := fun_mk (st := s_law_refused) l_law_refused c_law_refused k_law_refused
  have B_law_refused := F_law_refused.binds (ps := ["state", "turns", "size"]) fun _ _ _ _ _ _ us hl => match us, hl with | [_, _, _], _ => rfl
  have G_law_refused := fun (base : Heap) => ok_law_refused (P := P) (w := w) (base := base) T F_law_refused (G_law_pick base) B_law_pick (G_law_closed base) B_law_closed (G_law_a_turn base) B_law_a_turn (G_law_tried base) B_law_tried (G_law_draw base) B_law_draw (pure_law_refused K A)
  have F_law_all := fun_mk (st := s_law_all) l_law_all c_law_all k_law_all
  have B_law_all := F_law_all.binds (ps := ["size"]) fun _ _ _ _ _ _ us hl => match us, hl with | [_], _ => rfl
  have G_law_all := fun (base : Heap) => ok_law_all (P := P) (w := w) (base := base) T F_law_all  (pure_law_all K A)
  have F_law_undone := fun_mk (st := s_law_undone) l_law_undone c_law_undone k_law_undone
  have B_law_undone := F_law_undone.binds (ps := ["turn"]) fun _ _ _ _ _ _ us hl => match us, hl with | [_], _ => rfl
  have G_law_undone := fun (base : Heap) => ok_law_undone (P := P) (w := w) (base := base) T F_law_undone  (pure_law_undone K A)
  have F_law := fun_mk (st := s_law) l_law c_law k_law
  refine ⟨_, fun s v => .of_eq rfl, fun base _ _ => ok_law T F_law (G_law_state base) B_law_state (G_law_closed base) B_law_closed (G_lots base) B_lots (G_law_places base) B_law_places (G_law_draw base) B_law_draw (G_law_a_turn base) B_law_a_turn (G_law_refused base) B_law_refused (G_law_all base) B_law_all (G_law_mixed base) B_law_mixed (G_lot base) B_lot (G_law_into base) B_law_into (G_law_undone base) B_law_undone (pure_law K A)⟩
end turncoats_k05_whole_lots_part_all_turns
end TC
open PySem PySem.W PyProof.Rows in
set_option maxRecDepth 100000 in
set_option maxHeartbeats 0 in
theorem PySem.Challenge.cw_turncoats_k05_whole_lots_part_all_turns_holds : PySem.Challenge.rw_turncoats_k05_whole_lots_part_all_turns.Holds := by
  w_on; o_law; k_head; (case hw => w_witness2)
  k_fill
  refine L2.walk_of (l := PySem.Challenge.rw_turncoats_k05_whole_lots_part_all_turns) (n := 63) (k := 12) (x := "script") (CX := fun w => L2.CX (PySem.Challenge.rw_turncoats_k05_whole_lots_part_all_turns).prog w) (sp := fun w => TC.spLaw _) rfl (by decide) rfl ⟨rfl, by decide, by decide⟩ (fun w h Y => PySem.W.kIn_of Y) ?F (fun _ _ a ns hl _ hS => ⟨a, ns, rfl, hS, hl, fun _ => rfl⟩) (fun _ _ _ _ _ z => by
    obtain ⟨_, _, _, _, _, _, _, _, _, _, _, _, e⟩ := z
    exact e)
  case F =>
    intro w mg fa h KX G hmg
    refine' TC.turncoats_k05_whole_lots_part_all_turns.all_mk KX G hmg ?aC_CoatError ?aC_NoSize ?aC_NoTurn ?aC_NoGroup ?xC_NoSize ?kC_NoSize ?xC_NoTurn ?kC_NoTurn ?xC_NoGroup ?kC_NoGroup ?sC_CoatError ?tC_CoatError ?iC_CoatError ?sC_NoSize ?tC_NoSize ?iC_NoSize ?sC_NoTurn ?tC_NoTurn ?iC_NoTurn ?sC_NoGroup ?tC_NoGroup ?iC_NoGroup ?gC_NoSize ?qC_NoSize ?dC_NoSize ?lC_NoSize ?mC_NoSize ?vC_NoSize ?u_NoSize_CoatError ?u_NoSize_NoSize ?u_NoSize_NoTurn ?u_NoSize_NoGroup ?gC_NoTurn ?qC_NoTurn ?dC_NoTurn ?lC_NoTurn ?mC_NoTurn ?vC_NoTurn ?u_NoTurn_CoatError ?u_NoTurn_NoSize ?u_NoTurn_NoTurn ?u_NoTurn_NoGroup ?gC_NoGroup ?qC_NoGroup ?dC_NoGroup ?lC_NoGroup ?mC_NoGroup ?vC_NoGroup ?u_NoGroup_CoatError ?u_NoGroup_NoSize ?u_NoGroup_NoTurn ?u_NoGroup_NoGroup ?spG ?tkG ?aV_SIZES ?lV_SIZES ?zt_permutations ?z_ValueError ?z_abs ?z_all ?z_bool ?z_enumerate ?z_int ?z_isinstance ?z_len ?z_list ?z_range ?z_sorted ?z_tuple ?a_is_number ?l_is_number ?c_is_number ?k_is_number ?a_size_of ?l_size_of ?c_size_of ?k_size_of ?a_need_size ?l_need_size ?c_need_size ?k_need_size ?a_need_turn ?l_need_turn ?c_need_turn ?k_need_turn ?a_put ?l_put ?c_put ?k_put ?a_back ?l_back ?c_back ?k_back ?a_plain ?l_plain ?c_plain ?k_plain ?a_need_group ?l_need_group ?c_need_group ?k_need_group ?a_letters_of ?l_letters_of ?c_letters_of ?k_letters_of ?a_next_row ?l_next_row ?c_next_row ?k_next_row ?a_words_of ?l_words_of ?c_words_of ?k_words_of ?a_few_and_all ?l_few_and_all ?c_few_and_all ?k_few_and_all ?a_is_group ?l_is_group ?c_is_group ?k_is_group ?a_lot_of ?l_lot_of ?c_lot_of ?k_lot_of ?a_lot ?l_lot ?c_lot ?k_lot ?a_lots ?l_lots ?c_lots ?k_lots ?a_law_state ?l_law_state ?c_law_state ?k_law_state ?a_law_draw ?l_law_draw ?c_law_draw ?k_law_draw ?a_law_pick ?l_law_pick ?c_law_pick ?k_law_pick ?a_law_mixed ?l_law_mixed ?c_law_mixed ?k_law_mixed ?a_law_a_turn ?l_law_a_turn ?c_law_a_turn ?k_law_a_turn ?a_law_into ?l_law_into ?c_law_into ?k_law_into ?a_law_undone ?l_law_undone ?c_law_undone ?k_law_undone ?a_law_closed ?l_law_closed ?c_law_closed ?k_law_closed ?a_law_all ?l_law_all ?c_law_all ?k_law_all ?a_law_done ?l_law_done ?c_law_done ?k_law_done ?a_law_tried ?l_law_tried ?c_law_tried ?k_law_tried ?a_law_refused ?l_law_refused ?c_law_refused ?k_law_refused ?a_law_places ?l_law_places ?c_law_places ?k_law_places ?a_law ?l_law ?c_law ?k_law
    (case aC_CoatError => first | k_is | rfl)
    (case aC_NoSize => first | k_is | rfl)
    (case aC_NoTurn => first | k_is | rfl)
    (case aC_NoGroup => first | k_is | rfl)
    (case xC_NoSize => k_exc)
    (case kC_NoSize => first | k_is | rfl)
    (case xC_NoTurn => k_exc)
    (case kC_NoTurn => first | k_is | rfl)
    (case xC_NoGroup => k_exc)
    (case kC_NoGroup => first | k_is | rfl)
    (case sC_CoatError => first | k_is | rfl)
    (case tC_CoatError => first | k_is | rfl)
    (case iC_CoatError => first | k_is | rfl)
    (case sC_NoSize => first | k_is | rfl)
    (case tC_NoSize => first | k_is | rfl)
    (case iC_NoSize => first | k_is | rfl)
    (case sC_NoTurn => first | k_is | rfl)
    (case tC_NoTurn => first | k_is | rfl)
    (case iC_NoTurn => first | k_is | rfl)
    (case sC_NoGroup => first | k_is | rfl)
    (case tC_NoGroup => first | k_is | rfl)
    (case iC_NoGroup => first | k_is | rfl)
    (case gC_NoSize => first | k_is | rfl)
    (case qC_NoSize => first | k_is | rfl)
    (case dC_NoSize => first | k_is | rfl)
    (case lC_NoSize => first | k_is | rfl)
    (case mC_NoSize => first | k_is | rfl)
    (case vC_NoSize => first | k_is | rfl)
    (case u_NoSize_CoatError => first | k_is | rfl)
    (case u_NoSize_NoSize => first | k_is | rfl)
    (case u_NoSize_NoTurn => first | k_is | rfl)
    (case u_NoSize_NoGroup => first | k_is | rfl)
    (case gC_NoTurn => first | k_is | rfl)
    (case qC_NoTurn => first | k_is | rfl)
    (case dC_NoTurn => first | k_is | rfl)
    (case lC_NoTurn => first | k_is | rfl)
    (case mC_NoTurn => first | k_is | rfl)
    (case vC_NoTurn => first | k_is | rfl)
    (case u_NoTurn_CoatError => first | k_is | rfl)
    (case u_NoTurn_NoSize => first | k_is | rfl)
    (case u_NoTurn_NoTurn => first | k_is | rfl)
    (case u_NoTurn_NoGroup => first | k_is | rfl)
    (case gC_NoGroup => first | k_is | rfl)
    (case qC_NoGroup => first | k_is | rfl)
    (case dC_NoGroup => first | k_is | rfl)
    (case lC_NoGroup => first | k_is | rfl)
    (case mC_NoGroup => first | k_is | rfl)
    (case vC_NoGroup => first | k_is | rfl)
    (case u_NoGroup_CoatError => first | k_is | rfl)
    (case u_NoGroup_NoSize => first | k_is | rfl)
    (case u_NoGroup_NoTurn => first | k_is | rfl)
    (case u_NoGroup_NoGroup => first | k_is | rfl)
    (case spG => first | k_is | rfl)
    (case tkG => first | k_is | rfl)
    (case aV_SIZES => first | k_is | rfl)
    (case lV_SIZES => first | k_is | rfl)
    (case zt_permutations => first | k_is | rfl)
    (case z_ValueError => first | k_is | rfl)
    (case z_abs => first | k_is | rfl)
    (case z_all => first | k_is | rfl)
    (case z_bool => first | k_is | rfl)
    (case z_enumerate => first | k_is | rfl)
    (case z_int => first | k_is | rfl)
    (case z_isinstance => first | k_is | rfl)
    (case z_len => first | k_is | rfl)
    (case z_list => first | k_is | rfl)
    (case z_range => first | k_is | rfl)
    (case z_sorted => first | k_is | rfl)
    (case z_tuple => first | k_is | rfl)
    (case a_is_number => first | k_is | rfl)
    (case l_is_number => first | k_is | rfl)
    (case c_is_number => first | k_is | rfl)
    (case k_is_number => first | k_is | rfl)
    (case a_size_of => first | k_is | rfl)
    (case l_size_of => first | k_is | rfl)
    (case c_size_of => first | k_is | rfl)
    (case k_size_of => first | k_is | rfl)
    (case a_need_size => first | k_is | rfl)
    (case l_need_size => first | k_is | rfl)
    (case c_need_size => first | k_is | rfl)
    (case k_need_size => first | k_is | rfl)
    (case a_need_turn => first | k_is | rfl)
    (case l_need_turn => first | k_is | rfl)
    (case c_need_turn => first | k_is | rfl)
    (case k_need_turn => first | k_is | rfl)
    (case a_put => first | k_is | rfl)
    (case l_put => first | k_is | rfl)
    (case c_put => first | k_is | rfl)
    (case k_put => first | k_is | rfl)
    (case a_back => first | k_is | rfl)
    (case l_back => first | k_is | rfl)
    (case c_back => first | k_is | rfl)
    (case k_back => first | k_is | rfl)
    (case a_plain => first | k_is | rfl)
    (case l_plain => first | k_is | rfl)
    (case c_plain => first | k_is | rfl)
    (case k_plain => first | k_is | rfl)
    (case a_need_group => first | k_is | rfl)
    (case l_need_group => first | k_is | rfl)
    (case c_need_group => first | k_is | rfl)
    (case k_need_group => first | k_is | rfl)
    (case a_letters_of => first | k_is | rfl)
    (case l_letters_of => first | k_is | rfl)
    (case c_letters_of => first | k_is | rfl)
    (case k_letters_of => first | k_is | rfl)
    (case a_next_row => first | k_is | rfl)
    (case l_next_row => first | k_is | rfl)
    (case c_next_row => first | k_is | rfl)
    (case k_next_row => first | k_is | rfl)
    (case a_words_of => first | k_is | rfl)
    (case l_words_of => first | k_is | rfl)
    (case c_words_of => first | k_is | rfl)
    (case k_words_of => first | k_is | rfl)
    (case a_few_and_all => first | k_is | rfl)
    (case l_few_and_all => first | k_is | rfl)
    (case c_few_and_all => first | k_is | rfl)
    (case k_few_and_all => first | k_is | rfl)
    (case a_is_group => first | k_is | rfl)
    (case l_is_group => first | k_is | rfl)
    (case c_is_group => first | k_is | rfl)
    (case k_is_group => first | k_is | rfl)
    (case a_lot_of => first | k_is | rfl)
    (case l_lot_of => first | k_is | rfl)
    (case c_lot_of => first | k_is | rfl)
    (case k_lot_of => first | k_is | rfl)
    (case a_lot => first | k_is | rfl)
    (case l_lot => first | k_is | rfl)
    (case c_lot => first | k_is | rfl)
    (case k_lot => first | k_is | rfl)
    (case a_lots => first | k_is | rfl)
    (case l_lots => first | k_is | rfl)
    (case c_lots => first | k_is | rfl)
    (case k_lots => first | k_is | rfl)
    (case a_law_state => first | k_is | rfl)
    (case l_law_state => first | k_is | rfl)
    (case c_law_state => first | k_is | rfl)
    (case k_law_state => first | k_is | rfl)
    (case a_law_draw => first | k_is | rfl)
    (case l_law_draw => first | k_is | rfl)
    (case c_law_draw => first | k_is | rfl)
    (case k_law_draw => first | k_is | rfl)
    (case a_law_pick => first | k_is | rfl)
    (case l_law_pick => first | k_is | rfl)
    (case c_law_pick => first | k_is | rfl)
    (case k_law_pick => first | k_is | rfl)
    (case a_law_mixed => first | k_is | rfl)
    (case l_law_mixed => first | k_is | rfl)
    (case c_law_mixed => first | k_is | rfl)
    (case k_law_mixed => first | k_is | rfl)
    (case a_law_a_turn => first | k_is | rfl)
    (case l_law_a_turn => first | k_is | rfl)
    (case c_law_a_turn => first | k_is | rfl)
    (case k_law_a_turn => first | k_is | rfl)
    (case a_law_into => first | k_is | rfl)
    (case l_law_into => first | k_is | rfl)
    (case c_law_into => first | k_is | rfl)
    (case k_law_into => first | k_is | rfl)
    (case a_law_undone => first | k_is | rfl)
    (case l_law_undone => first | k_is | rfl)
    (case c_law_undone => first | k_is | rfl)
    (case k_law_undone => first | k_is | rfl)
    (case a_law_closed => first | k_is | rfl)
    (case l_law_closed => first | k_is | rfl)
    (case c_law_closed => first | k_is | rfl)
    (case k_law_closed => first | k_is | rfl)
    (case a_law_all => first | k_is | rfl)
    (case l_law_all => first | k_is | rfl)
    (case c_law_all => first | k_is | rfl)
    (case k_law_all => first | k_is | rfl)
    (case a_law_done => first | k_is | rfl)
    (case l_law_done => first | k_is | rfl)
    (case c_law_done => first | k_is | rfl)
    (case k_law_done => first | k_is | rfl)
    (case a_law_tried => first | k_is | rfl)
    (case l_law_tried => first | k_is | rfl)
    (case c_law_tried => first | k_is | rfl)
    (case k_law_tried => first | k_is | rfl)
    (case a_law_refused => first | k_is | rfl)
    (case l_law_refused => first | k_is | rfl)
    (case c_law_refused => first | k_is | rfl)
    (case k_law_refused => first | k_is | rfl)
    (case a_law_places => first | k_is | rfl)
    (case l_law_places => first | k_is | rfl)
    (case c_law_places => first | k_is | rfl)
    (case k_law_places => first | k_is | rfl)
    (case a_law => first | k_is | rfl)
    (case l_law => first | k_is | rfl)
    (case c_law => first | k_is | rfl)
    (case k_law => first | k_is | rfl)
#print axioms PySem.Challenge.cw_turncoats_k05_whole_lots_part_all_turns_holds

