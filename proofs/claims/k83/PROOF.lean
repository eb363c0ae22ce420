import PyProof.Rows.All
import Wide.All
import OpenK.AllK
import Wide.FinOn
import HandS.ForMost
import HandS.ExcInit
import HandS.ExcField
import HandS.SortInts
import HandS.Walk
import KE.GoesEnum
import HandS.IsInst
import HandS.Deep
import HandS.Style
import HandS.TupAny
import HandS.Exc
import HandS.TryOnly
import HandS.SetKeys
import KE.KDictKeyed
import HandS.Conv
import HandS.Iter
import HandS.CallSlots
import HandS.WordsExc
import HandS.Zip
import HandS.Rev
import HandS.Star
import HandS.SlotsOwn
import KE.GoesZip
import KE.GoesMore
import HandS.New
import HandS.EndBits
import KE.KExcIs
import PyProof.InstNe
import HandS.Defaults
import PyProof.Rows.RuleIs
import HandS.Lambda
import HandS.EndTab
import HandS.SortRule
import HandS.NamedTupSort
import KE.KSortTupAny
import KE.DatumOrd
import KE.KIndexWalk
import PyProof.FitsInt
import HandS.ExcIs
import PySem.Challenge.RW_oncetested_k83_whole_noes_in_which_all_p
set_option Elab.async false
set_option maxRecDepth 100000
/-! own exceptions that derive from an own class over Exception, with an __init__ that keeps its arguments -/
namespace Err
open PySem PySem.W PySem.Calls PyProof.Rows PySem.HandSPX
open Builtin Builtin.ObjectAttr
abbrev tail3 : List Value := [.type "Exception", .type "BaseException", .type "object"]
/-- own classes, then those of Exception -/
def refsEx : List Value → Bool
  | .ref _ :: r => refsEx r
  | l => l == tail3
theorem refsEx_or (l : List Value) (e : refsEx l = true) : (∃ c r, l = .ref c :: r ∧ refsEx r = true) ∨ l = tail3 := by
  cases l with
  | nil => exact .inr (beq_iff_eq.mp e)
  | cons v r =>
    cases v with
    | ref c => exact .inl ⟨c, r, rfl, e⟩
    | _ => exact .inr (beq_iff_eq.mp e)
theorem refsEx_ind {p : List Value → Prop} (h0 : p tail3) (hs : ∀ c r, refsEx r = true → p r → p (.ref c :: r)) : ∀ l, refsEx l = true → p l := fun l => by
  induction l with
  | nil => exact fun e => absurd e (by decide)
  | cons v r ih =>
    intro e
    rcases refsEx_or _ e with ⟨c, r', q, h⟩ | q
    · obtain ⟨rfl, rfl⟩ := List.cons.inj q
      exact hs c r h (ih h)
    · rw [q]; exact h0
theorem refsEx_pass (x : Value) : ∀ l, refsEx l = true → refuseLoop x "__setattr__" l = pure () := refsEx_ind (F.store_Exception.passes x) fun c r _ h => by rw [refuseLoop_ref]; exact h
theorem refsEx_has (X : String) : ∀ l, refsEx l = true → l.contains (.type X) = tail3.contains (.type X) := refsEx_ind rfl fun c r _ h => by
  rw [List.contains_cons, h]
  rfl
theorem refsEx_ne {l : List Value} (e : refsEx l = true) : l.isEmpty = false := by
  cases l with
  | nil => exact absurd e (by decide)
  | cons _ _ => rfl
section
variable {prog : Program} {w : World} {A : Around} {R : Result → Shared → Prop} {hp : Heap} {g : Array GenState} {d : Drawn} {t : Nat} {os : OsState}
/-- x.name = v, the first field of a fresh exception -/
theorem put_first {K : W.Frag} {name : Str} {tk : Tok} {v : Value} {x C : Addr} {fv : Array Value} {cl : ClassData} (X : K.In hp) (hx : hp.get? x = some { cls := .ref C, data := .fields fv }) (hcl : W.clsIn K C = some cl) (hm : refsEx cl.mro = true) (hh : cl.hasDict = true)
    (ha : W.findIn K (.ref C) name = some none)
    (hq : ∀ h' tk' dx, (∀ b o, b ≠ x → hp.get? b = some o → h'.get? b = some o) → hp.objs.size ≤ dx → dx ≠ x → h'.get? x = some { cls := .ref C, dict := some dx, data := .fields fv } → h'.Ns1 dx (fun y => if y = name then some v else none) → R (.ok (.ret .none)) ⟨h', g, d, tk', os⟩) :
    codeAny (model prog w) A (.call (.builtin "object.__setattr__") ⟨[.ref x, .str name tk, v], []⟩) R ⟨hp, g, d, t, os⟩ := by
  have at_ : W.InstAt hp x { cls := .ref C, data := .fields fv } C none := ⟨hx, rfl, rfl, trivial⟩
  have st := F.store_object
  have hob : cl.mro.contains (.type "object") = true := by rw [refsEx_has "object" _ hm]; decide +kernel
  have nx : x ≠ hp.objs.size := Nat.ne_of_lt (Heap.lt_size hx)
  have isO : W.Looks (model prog w) hp (isInstance (.ref x) (.type "object")) true := at_.type.andThen (W.looks_mroIn X (by
    unfold W.mroIn
    rw [hcl, Option.bind_some, if_neg (by rw [refsEx_ne hm]; decide), hob]))
  have own : W.Looks (model prog w) hp (classData C) cl := W.looks_clsIn X hcl
  have takes : W.Looks (model prog w) hp (storeTaker? none) none := .now
  have ways : W.Looks (model prog w) hp (mroOf (.ref C)) cl.mro := own.andThen .now
  refine codeAny_call_builtin st.slot.plain st.entry (@W.check_slot (model prog w) _ _ ⟨hp, g, d, t, os⟩ "object.__setattr__" "object" "__setattr__" (.ref x) [.str name tk, v] [] _ st.kind st.split isO (st.args (.ref x) (.str name tk) v) ?_)
  rw [W.osa_eq, refuse_eq]
  refine wpAny_bind (wpAny_bind (at_.type.at (wpAny_bind (ways.at ?_))))
  rw [refsEx_pass _ _ hm]
  refine wpAny_pure (wpAny_bind (at_.type.at (wpAny_bind ((W.looks_findIn X ha).at (wpAny_bind (takes.at ?_))))))
  show wpAny _ _ (storeInOwnDict (.ref x) (.ref C) (.str name tk) name v false) _ _ _
  obtain ⟨c1, c2, c3, c4, c5, c6, c7, c8, c9, c10, c11⟩ := cl
  dsimp only at hh
  subst hh
  unfold storeInOwnDict ownDictForStores
  repeat (first | with_reducible refine store_in_new ?_ ?_ | with_reducible refine wpAny_loadPart_at hx ?_ | with_reducible refine own.at ?_ | wp_step)
  · exact ⟨_, #[], _, (Heap.get?_update_ne _ _ _ _ nx.symm).trans (Heap.get?_push_at rfl rfl), rfl, fun e he => absurd he (by simp), fun _ => rfl⟩
  · intro h' tk' hn' sb
    have hx1 : (hp.push { cls := .type "dict", data := .dict #[] }).get? x = some { cls := .ref C, data := .fields fv } := Heap.get?_push_of_some _ hx
    refine hq h' tk' hp.objs.size (fun b o nb ho => ?_) (Nat.le_refl _) nx.symm ?_ hn'
    · exact (sb.2 b (Nat.ne_of_lt (Heap.lt_size ho))).trans ((Heap.get?_update_ne _ _ _ _ nb).trans (Heap.get?_push_of_some _ ho))
    · exact (sb.2 x nx).trans (Heap.get?_update_self _ hx1 rfl)
end
end Err
namespace Err
open PySem PySem.Spec PyProof.Rows L2
/-- what the written part says of such a class -/
structure Oex (K : PySem.W.Frag) (C : Addr) : Prop where
  cls : ∃ nm q N bs bm sn sub ab col dd k0 k1 k2 k3 k5, K.lookup C = some (excClassObj nm q C N bs bm true sn sub ab col dd k0 k1 k2 k3 k5 "Exception.__new__") ∧ refsEx bm = true
  sa : PySem.W.findIn K (.ref C) "__setattr__" = some (some (.builtin "object.__setattr__"))
  exC : PySem.W.subIn K (.ref C) (.type "BaseException") = some true
  tyC : PySem.W.typeIn K (.ref C) = some (.type "type")
  kC : PySem.W.keepIn K (.ref C) = true
section
variable {X : Cx} {pins : List (Addr × Obj)} {σ : L2.St} {H : Hp} {s : Shared} {a C : Addr} {f : Str} {y : V} {u : Value} {Q : Unit → Shared → Prop} {E : Value → Shared → Prop} {A : Around}
/-- self.f = y, the first one -/
theorem first_ok (T : Oex X.K C) (I : Inv X pins σ H s) (e : H a = some (exo a C none)) (hno : PySem.W.findIn X.K (.ref C) f = some none) (ry : RelV y u)
    (h : ∀ dx s', H dx = none → dx ≠ a → Inv X pins σ (upd (upd H dx (exd dx [(f, y)])) a (exo a C (some dx))) s' → Q () s') : wpAny (model X.prog X.w) A (setAttr (.ref a) f u) Q E s := by
  obtain ⟨nm, q, N, bs, bm, sn, sub, ab, col, dd, k0, k1, k2, k3, k5, hC, hbm⟩ := T.cls
  have hcl : PySem.W.clsIn X.K C = some { name := nm, bases := bs, mro := .ref C :: bm, ns := N, qualname := q, hasDict := true, slotNames := sn, subclasses := sub, abstract := ab, collection := col, hasDel := false } := by
    unfold PySem.W.clsIn
    rw [hC] <;> rfl
  obtain ⟨t1, ho⟩ := exo_at I.hok e
  obtain ⟨hp, g, d, t, os⟩ := s
  refine PySem.W.set_plain I.kIn (ox := { cls := .ref C, dict := none, data := .fields #[.ref t1, .none, .none, .none, .bool false, .none] }) (od := none) ⟨ho, rfl, rfl, trivial⟩ T.sa (put_first I.kIn ho hcl (show refsEx (.ref C :: bm) = true from hbm) rfl hno fun h' tk' dx k dn dne hx hn => ?_)
  have free : H dx = none := I.hok.fresh dn
  have low : ∀ {b : Addr} {o : Obj}, hp.get? b = some o → b ≠ dx := fun {b o} z => Nat.ne_of_lt (Nat.lt_of_lt_of_le (Heap.lt_size z) dn)
  have off : ∀ {b : Addr}, H b = none → b ≠ a := fun {b} n z => by rw [z, e] at n; cases n
  have U : Un X.fs [] H (upd (upd H dx (exd dx [(f, y)])) a (exo a C (some dx))) hp h' :=
    ⟨fun b o z n _ _ => k b o (off n) z, fun b o z n _ _ => ⟨o.slots, k b o (off n) z⟩, fun b o z n _ => by rw [upd_ne (off n), upd_ne (low z)]; exact n,
      fun b o z _ => by
        by_cases hb : b = a
        · exact ⟨_, by rw [hb]; exact hx⟩
        · exact ⟨o, k b o hb z⟩,
      fun b xs z => by rw [upd_ne (at_ne e z exo_tup), upd_ne (ne_of_none z free)]; exact z,
      fun b o v z => by rw [upd_ne (at_ne e z exo_frz), upd_ne (ne_of_none z free)]; exact z,
      fun b ps z => ⟨#[], by rw [upd_ne (at_ne e z exo_tbl), upd_ne (ne_of_none z free), z]; simp⟩⟩
  refine h dx _ free dne (I.un (t' := tk') U fun b o z => ?_)
  by_cases hb : b = a
  · rw [hb] at z ⊢
    rw [upd_same] at z
    cases z
    exact exo_ok hx
  rw [upd_ne hb] at z
  by_cases hd : b = dx
  · rw [hd] at z ⊢
    rw [upd_same] at z
    cases z
    exact exd_ok hn (relO_put (fs := []) ry fun _ => True.intro)
  rw [upd_ne hd] at z
  refine (I.hok b o z).stay (fun c v hc r => k c v ?_ r) (fun c hc => by rw [upd_ne (at_ne e hc exo_own), upd_ne (ne_of_none hc free)]; exact hc) fun c xs hc => by rw [upd_ne (at_ne e hc exo_tup), upd_ne (ne_of_none hc free)]; exact hc
  rcases hc with hc | hc
  · rw [hc]; exact hb
  · exact at_ne e hc exo_own
/-- self.f = e in such an __init__ -/
def tPut (K : PySem.W.Frag) (f : Str) (to te : TE) : TS := fun D σ H => te σ H fun y H1 => to σ H1 fun x H2 => ∃ a C : Addr, x = .ref a ∧ Oex K C ∧ PySem.W.findIn K (.ref C) f = some none ∧
  H2 a = some (exo a C none) ∧ ∀ dx, H2 dx = none → dx ≠ a → D.nx σ (upd (upd H2 dx (exd dx [(f, y)])) a (exo a C (some dx)))
variable {o ex : Expr} {es : List Expr} {to te : TE} {ta : TA} {p p' pos : Pos}
theorem ps_put (ho : PE X o to) (he : PE X ex te) (hs : swapsWith ex (some (.Attribute o f p')) pos.line X.env = pure false := by rfl) : PS X (.Assign [.Attribute o f p'] ex pos) (tPut X.K f to te) := by
  refine ⟨fun pins s σ H D I h => plainObj_wpAny_Assign_Attribute (thn (he.run pins s σ H _ I h) fun v s1 ⟨y, H1, I1, r1, q1⟩ => thn (ho.run pins s1 σ H1 _ I1 q1) fun u s2 ⟨x, H2, I2, r2, a, C, e1, T, hno, e2, q⟩ => ?_) hs⟩
  subst e1
  obtain rfl : u = Value.ref a := r2
  exact first_ok T I2 e2 hno r1 fun dx s' n ne J => ⟨σ, _, J, q dx n ne⟩
/-- C(e, ..) by such an __init__ -/
theorem pmk_ex {CX : CXT} {x : Str} {C fI : Addr} {k : Nat} {fd : FuncData} {ps : List Str} {sp : Sp} {ds : List Value} {dvs : List V} (T : Oex X.K C) (iC : PySem.W.findIn X.K (.ref C) "__init__" = some (some (.ref fI))) (tI : PySem.W.typeIn X.K (.ref fI) = some (.type "function"))
    (G : FnOk X.prog X.w X.K X.mg X.base CX k fI fd ps sp) (hr : Room (k + 1) X.A) (hb : Binds X.K fd ps ds) (hd : Vals dvs ds) (hx : Passes CX X (fun _ _ _ => False)) (hg : Gl X x) (hm : X.mg x = some (.ref C)) (ha : PA X (ex :: es) ta)
    (hdb : (x == ("__debug__" : Str)) = false := by decide) (he : starEach (ex :: es) X.env = (false, eval ex X.env) :: starEach es X.env := by rfl) (hpl : (backTo pos (starEach es X.env)).any (·.1) = false := by rfl) :
    PMk X (.Call (.Name x p) (ex :: es) [] pos) (tMkO C sp dvs ta) := by
  intro pins s σ H Q I h
  obtain ⟨nm, q, N, bs, bm, sn, sub, ab, col, dd, k0, k1, k2, k3, k5, hC, hbm⟩ := T.cls
  refine wpAny_Call_Name_kw (ld_glob I hg hm ?_ hdb)
  refine PySem.W.callWith_K (h₀ := X.base) I.ok.mod.kin T.kC (thn (ha.run pos pins s σ H _ I h) fun us s1 ⟨vs, H1, I1, r1, hz, q1⟩ => ⟨I1.kIn, ?_⟩) he hpl
  show wpAny _ _ (call (.ref C) us) _ _ _
  obtain ⟨hp, g, dr, tk, os⟩ := s1
  have up1 : hp.objs.size ≤ hp.objs.size + 1 := Nat.le_succ _
  have q2 := q1 (hp.objs.size + 1) (I1.hok.fresh up1)
  have kept : ∀ b o, hp.get? b = some o → ((hp.push (PySem.W.kdv_tup us)).push (PySem.HandSPX.excO C hp.objs.size)).get? b = some o := fun b o e => Heap.get?_push_of_some _ (Heap.get?_push_of_some _ e)
  have there : ((hp.push (PySem.W.kdv_tup us)).push (PySem.HandSPX.excO C hp.objs.size)).get? (hp.objs.size + 1) = some (PySem.HandSPX.excO C hp.objs.size) := by heap_get
  have I2 : Inv X pins σ (upd H1 (hp.objs.size + 1) (exo (hp.objs.size + 1) C none)) ⟨(hp.push (PySem.W.kdv_tup us)).push (PySem.HandSPX.excO C hp.objs.size), g, dr, tk, os⟩ := I1.laid (t' := tk) kept up1 (exo_ok there)
  have r2 : Vals (V.ref (hp.objs.size + 1) :: (vs ++ dvs)) (Value.ref (hp.objs.size + 1) :: (us ++ ds)) := .cons rfl (r1.append hd)
  have hl : (Value.ref (hp.objs.size + 1) :: us ++ ds).length = ps.length := by
    have e := r2.length
    rw [G.len _ _ _ _ q2] at e
    exact e.symm
  have hus : us.length ≤ sizeLine := by
    have := Paired.length r1
    rw [sizeLine_eq]
    omega
  have run := G.run _ X.stack _ _ ⟨Value.ref (hp.objs.size + 1) :: us, []⟩ (Value.ref (hp.objs.size + 1) :: (us ++ ds)) _ _ (fun _ _ _ => False) (hr.make C us []) (I2.env0.make C us []) (hb _ (Value.ref (hp.objs.size + 1) :: us) I2.kIn hl) r2 q2
  refine wpAny_call (PySem.HandSPX.call_own F.excBase_Exception (fun Y => refsEx_has Y bm hbm) (I1.kIn _ _ hC) (PySem.W.looks_findIn I1.kIn iC) (fun self => PySem.W.bind_fn I1.kIn self tI) hus (codeAny_mono run fun r s' hq => ?_))
  cases r with
  | error er => exact hx pins σ _ _ er s' I2 hq
  | ok fl =>
    cases fl with
    | ret u =>
      obtain ⟨v, H2, os2, bare2, un2, hok2, rv, ev, d, fs, ea, ed, hd1, q3⟩ := hq
      subst ev
      obtain ⟨h2, g2, d2, t2, os'⟩ := s'
      exact ⟨rv, mk_end (raises_own T.exC T.tyC) I1 up1 kept un2 hok2 os2 bare2 ea ed hd1 q3⟩
    | next => exact False.elim hq
    | brk => exact False.elim hq
    | cont => exact False.elim hq
end
end Err
namespace DL
open PySem PySem.Spec PyProof.Rows L2
open AutoSeq1 (wpAny_loadPart')
set_option maxHeartbeats 1000000 in
theorem ext_tup (l b : Addr) (us ws : Array Value) (n m : Nat) (dd : Option Addr) (sl : Array (Option Value)) (h0 : Builtin.List.listTooLong (us.size + ws.size) = false) (h1 : us.size ≤ sizeLine) (h2 : us.size + ws.size ≤ sizeLine + 1) :
    Meets (Builtin.«list.extend» ⟨[.ref l, .ref b], []⟩) (fun _ R s => s.heap.get? l = some { cls := .type "list", dict := none, data := .seq us n, slots := #[] } ∧
      s.heap.get? b = some { cls := .type "tuple", dict := dd, data := .seq ws m, slots := sl } ∧
      R (.ok (.ret Value.none)) { s with heap := s.heap.update l (Obj.mapSeq fun x => x ++ ws), toks := s.toks }) :=
  .of_wp fun prog w A R s h => by
    obtain ⟨hp, g, d, tk, os⟩ := s
    obtain ⟨hl, hb, h⟩ := h
    have f1 := AutoSeq1.sub_tuple_tuple
    have f2 := AutoSeq1.sub_list_list
    have f3 := AutoSeq1.sub_tuple_list
    have f4 := AutoSeq1.sub_list_tuple
    have z : (us ++ ws).size ≤ sizeLine + 1 := by
      rw [Array.size_append]
      exact h2
    have q : ¬ (!us.isEmpty && Builtin.List.listTooLong (us.size + ws.size)) = true := by
      rw [h0, Bool.and_false]
      exact Bool.false_ne_true
    wp_walk using (wpAny_updateSeq hl rfl (hz := h1) (_hz' := z)), wpAny_loadPart' hl, wpAny_loadPart' hb
    exact ⟨_, rfl, h⟩
section
variable {X : Cx}
/-- l.extend(t) for a tuple t -/
def rExtT (K : PySem.W.Frag) : V → List V → Hp → VK → Prop := fun x vs H Q => ∃ l b xs zs, x = .ref l ∧ vs = [.ref b] ∧ H l = some (.lst xs) ∧ SqT K H b zs ∧ xs.length + zs.length ≤ sizeLine ∧ Q .non (upd H l (.lst (xs ++ zs)))
theorem mt_extT : MtM X "list.extend" (rExtT X.K) := by
  intro pins s σ H x vs v us Q I rx rv h
  obtain ⟨l, b, xs, zs, rfl, rfl, hH, hB, hz, q⟩ := h
  cases rx
  obtain ⟨u, rfl, ru⟩ := rv.one
  cases ru
  obtain ⟨z, its, n, r, hl, e⟩ := I.lstM hH
  obtain ⟨ws, r2, ⟨⟨c, dd, dt, sl⟩, e2, hc, m, hd⟩, z2⟩ := I.tuple hB
  simp only at hc hd
  subst hc hd
  have l2 := r2.length
  have hsz : its.toArray.size + ws.toArray.size ≤ sizeLine := by
    rw [List.size_toArray, List.size_toArray]
    omega
  refine call_meets F.slot_list_extend ⟨_, e, rfl⟩ F.entry_list_extend (F.args_list_extend_2 _ _)
    (ext_tup l b its.toArray ws.toArray n m dd sl (notLongL hsz) (by rw [List.size_toArray]; omega) (by omega)) ⟨e, e2, ?_⟩
  refine ⟨.non, _, I.lset (its' := its ++ ws) hH e (by simp) (r.append r2) ?_, rfl, q⟩
  rw [List.length_append]
  omega
end
end DL
/-! enumerate(t) for a tuple t, as what a for walks -/
namespace DL
open PySem PySem.Spec PyProof.Rows L2
open AutoSeq1 (wpAny_loadPart')
set_option maxHeartbeats 1000000 in
theorem enum_newT (t : Addr) (us : Array Value) (n : Nat) (dd : Option Addr) (sl : Array (Option Value)) :
    Meets (Builtin.«enumerate.__new__» ⟨[.type "enumerate", .ref t], []⟩) (fun _ R s => s.heap.get? t = some { cls := .type "tuple", dict := dd, data := .seq us n, slots := sl } ∧
      R (.ok (.ret (.ref (s.heap.push { cls := .type "tuple_iterator", data := .fields #[.ref t, .int 0 0] }).objs.size)))
        { s with heap := (s.heap.push { cls := .type "tuple_iterator", data := .fields #[.ref t, .int 0 0] }).push { cls := .type "enumerate", data := .fields #[.none, .bool false, .ref s.heap.objs.size, rawInt 0, .none, .none] } }) :=
  .of_wp fun prog w A R s h => by
    obtain ⟨hp, g, d, tk, os⟩ := s
    obtain ⟨ht, h⟩ := h
    have f1 := sub_enumerate
    have hT : Heap.IsTuple (Shared.heap ⟨hp, g, d, tk, os⟩) t us := ⟨_, ht, rfl, n, rfl⟩
    wp_walk using wpAny_loadPart' ht
    refine wpAny_stack_any fun st => wpAny_pure ?_
    split
    · rename_i c _ _ _ _ _
      cases (c == Value.type "enumerate") <;> (wp_walk using wpAny_loadPart' ht, wpAny_pyIter_tuple hT) <;> exact ⟨_, rfl, h⟩
    · wp_walk using wpAny_loadPart' ht, wpAny_pyIter_tuple hT
      exact ⟨_, rfl, h⟩
section
variable {prog : Program} {w : World} {A : Around} {E : Value → Shared → Prop} {s : Shared}
theorem call_enumT {t : Addr} {us : Array Value} {Q : Value → Shared → Prop} (hT : IsTup s.heap t us)
    (h : ∀ h', IsEnum h' (s.heap.objs.size + 1) s.heap.objs.size 0 .none → h'.IsTupleIter s.heap.objs.size t 0 → (∀ b o, s.heap.get? b = some o → h'.get? b = some o) → Q (.ref (s.heap.objs.size + 1)) { s with heap := h' }) :
    wpAny (model prog w) A (call (.type "enumerate") [.ref t]) Q E s := by
  obtain ⟨⟨c, dd, dt, sl⟩, ht, hc, n, hd⟩ := hT
  simp only at hc hd
  subst hc hd
  have z : (s.heap.push { cls := .type "tuple_iterator", data := .fields #[.ref t, .int 0 0] }).objs.size = s.heap.objs.size + 1 := Heap.size_push ..
  refine callType_new F.called_enumerate (by decide) (F.typeCall_enumerate_1 _) (F.newCall_enumerate_1 _) (fun obj => F.args_object_init_2 obj _) F.entry_enumerate_new (enum_newT t us n dd sl) ⟨ht, ?_⟩
  show _ ∧ _
  rw [z]
  have e1 : IsEnum ((s.heap.push { cls := .type "tuple_iterator", data := .fields #[.ref t, .int 0 0] }).push
      { cls := .type "enumerate", data := .fields #[.none, .bool false, .ref s.heap.objs.size, rawInt 0, .none, .none] }) (s.heap.objs.size + 1) s.heap.objs.size 0 .none := by
    have q := Heap.get?_push_size (s.heap.push { cls := .type "tuple_iterator", data := .fields #[.ref t, .int 0 0] })
      (o := { cls := .type "enumerate", data := .fields #[.none, .bool false, .ref s.heap.objs.size, rawInt 0, .none, .none] }) rfl
    rw [z] at q
    exact q
  exact ⟨⟨_, e1, rfl⟩, h _ e1 ⟨_, Heap.get?_push_of_some _ (Heap.get?_push_size _ rfl), rfl, rfl⟩ fun b o q => Heap.get?_push_of_some _ (Heap.get?_push_of_some _ q)⟩
end
/-- the tuple at a, each item in a new pair -/
def IteT (K : PySem.W.Frag) (a : Addr) : It :=
  ⟨fun i H => ∃ (xs : List V) (x : V), SqT K H a xs ∧ xs[i]? = some x,
    fun i H v H' => ∃ (T : Addr) (x : V) (o : Obj), v = .ref T ∧ H T = none ∧ o.dict = none ∧ H' = upd H T (.frz o (.tup [.int (i : Nat), x])) ∧ ∀ xs, SqT K H a xs → xs[i]? = some x,
    fun i H => ∃ xs : List V, SqT K H a xs ∧ xs.length = i⟩
theorem turn_enumT {P : Program} {w : World} {K : PySem.W.Frag} {elts : List Expr} {kk : Nat} {tpos : Pos} (a e it : Addr) :
    Turn P w K (.Tuple elts kk tpos) (IteT K a) [e, it] e (fun i h => (∃ old, IsEnum h e it ((i : Nat) : Int) old) ∧ h.IsTupleIter it a i ∧ e ≠ it ∧ a ≠ it ∧ e ≠ a) where
  mem := by simp
  obj := fun i h st b hb => by
    obtain ⟨⟨old, he⟩, ⟨o, ho, hc, hd⟩, _⟩ := st
    have q : b = e ∨ b = it := by simpa using hb
    rcases q with rfl | rfl
    · exact ⟨_, he, fun v z => nomatch z⟩
    · exact ⟨o, ho, fun v z => by rw [hd] at z; cases z⟩
  keep := fun i h h' st k => by
    obtain ⟨⟨old, he⟩, hi, hne⟩ := st
    exact ⟨⟨old, k e (by simp) _ he⟩, hi.at fun o q => k it (by simp) o q, hne⟩
  item := by
    intro X hP hw hK hc i pins s σ H E I hf st hg
    subst hP hw hK
    obtain ⟨⟨old, he⟩, hit, hne, hat, hea⟩ := st
    obtain ⟨xs, x, hq, hx⟩ := hg
    obtain ⟨its, rv, p, hz⟩ := I.tuple hq
    obtain ⟨u, hu, ru⟩ := rv.get hx
    have hel : e < s.heap.objs.size := Heap.lt_size he
    have hil : it < s.heap.objs.size := by
      obtain ⟨_, q, _⟩ := hit
      exact Heap.lt_size q
    have hlt : i < its.toArray.size := by
      have := (List.getElem?_eq_some_iff.mp hu).1
      simpa using this
    have D : Draws X.prog X.w X.A.in1 it [it, a] its.toArray.size (fun i v => its.toArray[i]? = some v) (fun i h => h.IsTupleIter it a i ∧ h.IsTuple a its.toArray) :=
      Draws.tuple (show X.A.in1.handled = none from I.ok.hd hc) it a hat its.toArray
    refine wpAny_pyNext_enum_itemC D he ⟨hit, p⟩ hlt hne (by simp; exact ⟨hne, hea⟩) fun x' h' tk hP ho hst hT hsz hk => ?_
    have ex : x' = u := by
      have h1 : its.toArray[i]? = some x' := hP
      have h2 : its.toArray[i]? = some u := by simpa using hu
      rw [h1] at h2
      exact Option.some.inj h2
    subst ex
    refine ⟨_, rfl, wpAny_letOwnedTupleGo_enum (s := { s with heap := h', toks := tk + 1 }) ho fun h'' he' sb => ?_⟩
    have hT2 : h''.get? s.heap.objs.size = some { cls := .type "tuple", data := .seq #[.int i tk, x'] } := (sb.2 _ (Nat.ne_of_gt hel)).trans hT
    have new : ObjOk X.prog X.w (upd H s.heap.objs.size (.frz { cls := .type "tuple", data := .seq #[.int i tk, x'] } (.tup [.int (i : Nat), x]))) h'' s.heap.objs.size (.frz { cls := .type "tuple", data := .seq #[.int i tk, x'] } (.tup [.int (i : Nat), x])) :=
      ⟨hT2, by show 2 ≤ sizeLine; decide, [.int i tk, x'], .cons ⟨_, rfl⟩ (.cons ru .nil), ⟨_, hT2, rfl, _, rfl⟩⟩
    have I1 : Inv X pins σ (upd H s.heap.objs.size (.frz { cls := .type "tuple", data := .seq #[.int i tk, x'] } (.tup [.int (i : Nat), x]))) { s with heap := h'', toks := tk + 1 } := by
      refine I.turnedNew (ch := [e, it]) (fun b ob hb q => ?_) hf (Nat.le_refl _) new
      have n1 : b ≠ e := fun z => hb (by simp [z])
      have n2 : b ≠ it := fun z => hb (by simp [z])
      exact (sb.2 b n1).trans (hk b ob n1 n2 q)
    refine ⟨.ref s.heap.objs.size, _, I1, rfl, ⟨_, x, _, rfl, I.hok.fresh (Nat.le_refl _), rfl, rfl, fun ys hy => by rw [I.tuple_inj hy hq]; exact hx⟩, ⟨⟨x', ?_⟩, hst.1.at fun o q => (sb.2 it (Ne.symm hne)).trans q, hne, hat, hea⟩, fun b hb => ?_⟩
    · have e1 : ((i + 1 : Nat) : Int) = (i : Int) + 1 := by omega
      rw [e1]
      exact he'
    · have hb' : b < s.heap.objs.size := by
        have q : b = e ∨ b = it := by simpa using hb
        rcases q with rfl | rfl
        · exact hel
        · exact hil
      rw [upd_ne (Nat.ne_of_lt hb')]
      exact (hf b hb).1
  done := by
    intro X hP hw hK hc i pins s σ H E I hf st hg
    subst hP hw hK
    obtain ⟨⟨old, he⟩, hit, hne, hat, hea⟩ := st
    obtain ⟨xs, hq, hx⟩ := hg
    obtain ⟨its, rv, p, hz⟩ := I.tuple hq
    obtain ⟨f0, f1, f2, f3, f4, f5⟩ := hf it (by simp)
    have hl := rv.length
    have D : Draws X.prog X.w X.A.in1 it [it, a] its.toArray.size (fun i v => its.toArray[i]? = some v) (fun i h => h.IsTupleIter it a i ∧ h.IsTuple a its.toArray) :=
      Draws.tuple (show X.A.in1.handled = none from I.ok.hd hc) it a hat its.toArray
    have hi : i = its.toArray.size := by
      rw [List.size_toArray]
      omega
    subst hi
    exact wpAny_pyNext_enum_endD D he ⟨hit, p⟩ fun h' eb => ⟨rfl, I.turned (t' := s.toks) (fun b o hb q => eb b o hb q) f0 f1 f3 f4 f5⟩
  self := fun A i s Q E st h => by
    obtain ⟨⟨_, he⟩, _⟩ := st
    exact wpAny_pyIter_enum he h
def iEnumT (K : PySem.W.Frag) (ta : TA) : TI := fun σ H R => ta σ H fun vs H1 => ∃ a xs, vs = [.ref a] ∧ SqT K H1 a xs ∧ R (IteT K a) H1
theorem pi_enumT {X : Cx} {e : Expr} {ta : TA} {p pos tpos : Pos} {elts : List Expr} {kk : Nat} (hg : Gl X "enumerate") (hm : X.mg "enumerate" = none) (ha : PA X [e] ta) (hs : starEach [e] X.env = [(false, eval e X.env)] := by rfl) :
    PI X (.Tuple elts kk tpos) (.Call (.Name "enumerate" p) [e] [] pos) (iEnumT X.K ta) := by
  refine ⟨fun pins s σ H R I h => ?_⟩
  refine Call_ (ld_blt I hg hm boot_enumerate (PyProof.Rows.callWith_type1 (thn (ha.run pos pins s σ H _ I h) fun us s1 ⟨vs, H1, I1, r1, q1⟩ => ?_) hs rfl))
  obtain ⟨a, xs, rfl, hq, q⟩ := q1
  obtain ⟨u, rfl, ru⟩ := r1.one
  cases ru
  obtain ⟨its, rv, p', hz⟩ := I1.tuple hq
  have hal : a < s1.heap.objs.size := by
    obtain ⟨o, ho, _⟩ := id p'
    exact Heap.lt_size ho
  refine call_enumT p' fun h' he hit hk => wpAny_pyIter_enum he ?_
  have I2 : Inv X pins σ H1 { s1 with heap := h' } := I1.kept (t' := s1.toks) hk
  refine ⟨s1.heap.objs.size + 1, [s1.heap.objs.size + 1, s1.heap.objs.size], _, _, H1, rfl, I2, turn_enumT a (s1.heap.objs.size + 1) s1.heap.objs.size, ⟨⟨.none, he⟩, hit, Nat.succ_ne_self _, Nat.ne_of_lt hal, ?_⟩, fun b hb => ?_, q⟩
  · exact Nat.ne_of_gt (Nat.lt_succ_of_lt hal)
  · have hle : s1.heap.objs.size ≤ b := by
      have z : b = s1.heap.objs.size + 1 ∨ b = s1.heap.objs.size := by simpa using hb
      rcases z with rfl | rfl
      · exact Nat.le_succ _
      · exact Nat.le_refl _
    exact I1.fpOk hle (I1.hok.fresh hle)
end DL
set_option linter.all false
/-! values without tuples' places: tuples are values, what may change stands at an address -/
namespace DL
open PySem PySem.Spec PyProof.Rows L2
inductive D where
  | non | bl (b : Bool) | int (i : Int) | str (x : Str) | ty (n : String) | tup (ds : List D) | ref (a : Addr)
/-- what stands at an address -/
inductive DO where
  | lst (ds : List D)
  | frz (ds : List D)
  | ins (C : Addr) (fs : List (Str × D))
  | raw (o : HO)
  | xd (fs : List (Str × D))
  | dic (P : Program) (w : World) (kvs : List (NestedKey × D))
  | dki (kvs : List (Key × D))
abbrev DHp := Addr → Option DO
abbrev VS := L2.St
abbrev DSt := List (Option D)
abbrev DK := D → DHp → Prop
/-- a tuple of whose object is known that it has no dict -/
def NdT (H : Hp) (a : Addr) (vs : List V) : Prop := ∃ o, H a = some (.frz o (.tup vs)) ∧ o.dict = none
theorem NdT.sq {K : PySem.W.Frag} {H : Hp} {a : Addr} {vs : List V} (h : NdT H a vs) : SqT K H a vs := let ⟨o, e, _⟩ := h; .inl (.inr ⟨o, e⟩)
mutual
inductive DR (K : PySem.W.Frag) (H : Hp) : V → D → Prop
  | non : DR K H .non .non
  | bl (b : Bool) : DR K H (.bl b) (.bl b)
  | int (i : Int) : DR K H (.int i) (.int i)
  | str (x : Str) : DR K H (.str x) (.str x)
  | ty (n : String) : DR K H (.ty n) (.ty n)
  | tup {a : Addr} {vs : List V} {ds : List D} : NdT H a vs → DRs K H vs ds → DR K H (.ref a) (.tup ds)
  | ref (a : Addr) : DR K H (.ref a) (.ref a)
inductive DRs (K : PySem.W.Frag) (H : Hp) : List V → List D → Prop
  | nil : DRs K H [] []
  | cons {v : V} {vs : List V} {d : D} {ds : List D} : DR K H v d → DRs K H vs ds → DRs K H (v :: vs) (d :: ds)
end
abbrev DFs (K : PySem.W.Frag) (H : Hp) : List (Str × V) → List (Str × D) → Prop := Paired fun p q => p.1 = q.1 ∧ DR K H p.2 q.2
/-! what a value is as a key -/
mutual
inductive NK : D → NestedKey → Prop
  | non : NK .non .none
  | bl (b : Bool) : NK (.bl b) (.num (if b = true then 1 else 0))
  | int (i : Int) : NK (.int i) (.num i)
  | str (x : Str) : NK (.str x) (.text x)
  | tup {ds : List D} {ks : List NestedKey} : NKs ds ks → NK (.tup ds) (.tup ks)
inductive NKs : List D → List NestedKey → Prop
  | nil : NKs [] []
  | cons {d : D} {ds : List D} {k : NestedKey} {ks : List NestedKey} : NK d k → NKs ds ks → NKs (d :: ds) (k :: ks)
end
/-- the entries of a dict whose keys are tuples -/
def DicEs (P : Program) (w : World) (a : Addr) (es : List (NestedKey × Addr × Value)) (h : Heap) : Prop :=
  ∃ o ds ep, h.get? a = some o ∧ o.ExactDict ∧ o.data = .dict ds ep ∧ ds.toList = es.map (entryOfKey (nestedKind P w)) ∧ (es.map (·.1)).Nodup ∧ es.length ≤ sizeLine ∧ (a == sysModules) = false
def KeyAt (K : PySem.W.Frag) (H : Hp) (b : Addr) (k : NestedKey) : Prop := ∃ ds, DR K H (.ref b) (.tup ds) ∧ NK (.tup ds) k ∧ k.depth ≤ 8
def DicR (K : PySem.W.Frag) (H : Hp) (p : NestedKey × D) (q : NestedKey × Addr × Value) : Prop := p.1 = q.1 ∧ KeyAt K H q.2.1 p.1 ∧ ∃ v, RelV v q.2.2 ∧ DR K H v p.2
def DkiR (K : PySem.W.Frag) (H : Hp) (p : Key × D) (q : Key × V) : Prop := p.1 = q.1 ∧ DR K H q.2 p.2
def OR (K : PySem.W.Frag) (H : Hp) (a : Addr) : DO → Prop
  | .lst ds => ∃ vs, H a = some (.lst vs) ∧ DRs K H vs ds
  | .frz ds => ∃ o vs, H a = some (.frz o (.lst vs)) ∧ DRs K H vs ds
  | .ins C fs => ∃ dx fv, H a = some (.ins C dx fv) ∧ DFs K H fv fs
  | .raw o => H a = some o
  | .xd fs => ∃ fv, H a = some (.xd fv) ∧ DFs K H fv fs
  | .dic P w kvs => ∃ es, H a = some (.ext (DicEs P w a es)) ∧ Paired (DicR K H) kvs es
  | .dki kvs => ∃ vs, H a = some (.dK vs) ∧ Paired (DkiR K H) kvs vs
def MR (K : PySem.W.Frag) (M : DHp) (H : Hp) : Prop := ∀ a o, M a = some o → OR K H a o
/-- tuples and what is known stay -/
structure TS0 (H H' : Hp) : Prop where
  t : ∀ a xs, H a = some (.tup xs) → H' a = some (.tup xs)
  f : ∀ a o u, H a = some (.frz o u) → H' a = some (.frz o u)
  d : ∀ a, H' a = none → H a = none
/-- what is not told stays as it is -/
structure Fr (M : DHp) (H : Hp) (M' : DHp) (H' : Hp) : Prop where
  s : TS0 H H'
  k : ∀ a o, H a = some o → M a = none → H' a = some o ∧ M' a = none
theorem TS0.refl (H : Hp) : TS0 H H := ⟨fun _ _ h => h, fun _ _ _ h => h, fun _ h => h⟩
theorem TS0.trans {H H1 H2 : Hp} (a : TS0 H H1) (b : TS0 H1 H2) : TS0 H H2 := ⟨fun c x h => b.t c x (a.t c x h), fun c o u h => b.f c o u (a.f c o u h), fun c h => a.d c (b.d c h)⟩
theorem Fr.refl (M : DHp) (H : Hp) : Fr M H M H := ⟨.refl H, fun _ _ h n => ⟨h, n⟩⟩
theorem Fr.trans {M M1 M2 : DHp} {H H1 H2 : Hp} (a : Fr M H M1 H1) (b : Fr M1 H1 M2 H2) : Fr M H M2 H2 := ⟨a.s.trans b.s, fun c o h n => let ⟨h1, n1⟩ := a.k c o h n; b.k c o h1 n1⟩
section
variable {K : PySem.W.Frag} {H H' : Hp} {M M' : DHp}
theorem sqT_ts {a : Addr} {xs : List V} (h : SqT K H a xs) (e : TS0 H H') : SqT K H' a xs := by
  rcases h with (h | ⟨o, h⟩) | h
  · exact .inl (.inl (e.t _ _ h))
  · exact .inl (.inr ⟨o, e.f _ _ _ h⟩)
  · exact .inr h
theorem NdT.ts {a : Addr} {xs : List V} (h : NdT H a xs) (e : TS0 H H') : NdT H' a xs := let ⟨o, q, d⟩ := h; ⟨o, e.f _ _ _ q, d⟩
mutual
theorem DR.ts (e : TS0 H H') : ∀ {v : V} {d : D}, DR K H v d → DR K H' v d
  | _, _, .non => .non
  | _, _, .bl b => .bl b
  | _, _, .int i => .int i
  | _, _, .str x => .str x
  | _, _, .ty n => .ty n
  | _, _, .ref a => .ref a
  | _, _, .tup h t => .tup (h.ts e) (t.ts e)
theorem DRs.ts (e : TS0 H H') : ∀ {v : List V} {d : List D}, DRs K H v d → DRs K H' v d
  | _, _, .nil => .nil
  | _, _, .cons h t => .cons (h.ts e) (t.ts e)
end
theorem DicR.ts (e : TS0 H H') {p : NestedKey × D} {q : NestedKey × Addr × Value} (z : DicR K H p q) : DicR K H' p q :=
  let ⟨z1, ⟨ds, z2, z3⟩, v, z4, z5⟩ := z; ⟨z1, ⟨ds, z2.ts e, z3⟩, v, z4, z5.ts e⟩
theorem DkiR.ts (e : TS0 H H') {p : Key × D} {q : Key × V} (z : DkiR K H p q) : DkiR K H' p q := ⟨z.1, z.2.ts e⟩
theorem DFs.ts (e : TS0 H H') {f : List (Str × V)} {g : List (Str × D)} (h : DFs K H f g) : DFs K H' f g := Paired.mapP h fun _ _ z => ⟨z.1, z.2.ts e⟩
theorem DRs.length : ∀ {vs : List V} {ds : List D}, DRs K H vs ds → vs.length = ds.length
  | _, _, .nil => rfl
  | _, _, .cons _ t => congrArg Nat.succ t.length
theorem DRs.get : ∀ {vs : List V} {ds : List D}, DRs K H vs ds → ∀ {i : Nat} {v : V}, vs[i]? = some v → ∃ d, ds[i]? = some d ∧ DR K H v d
  | _, _, .nil, i, v, h => by simp at h
  | _, _, .cons (d := d) h t, 0, v, e => ⟨d, rfl, by have e' := Option.some.inj e; subst e'; exact h⟩
  | _, _, .cons h t, i + 1, v, e => t.get (i := i) (by simpa using e)
theorem DRs.getD : ∀ {vs : List V} {ds : List D}, DRs K H vs ds → ∀ {i : Nat} {d : D}, ds[i]? = some d → ∃ v, vs[i]? = some v ∧ DR K H v d
  | _, _, .nil, i, v, h => by simp at h
  | _, _, .cons (v := v) h t, 0, d, e => ⟨v, rfl, by have e' := Option.some.inj e; subst e'; exact h⟩
  | _, _, .cons h t, i + 1, d, e => t.getD (i := i) (by simpa using e)
theorem DRs.set {v : V} {d : D} (h : DR K H v d) : ∀ {vs : List V} {ds : List D} {i : Nat}, DRs K H vs ds → DRs K H (vs.set i v) (ds.set i d)
  | _, _, _, .nil => .nil
  | _, _, 0, .cons _ t => .cons h t
  | _, _, i + 1, .cons a t => .cons a (DRs.set h t)
theorem DRs.app : ∀ {vs ws : List V} {ds es : List D}, DRs K H vs ds → DRs K H ws es → DRs K H (vs ++ ws) (ds ++ es)
  | _, _, _, _, .nil, h => h
  | _, _, _, _, .cons a t, h => .cons a (t.app h)
theorem DRs.rev : ∀ {vs : List V} {ds : List D}, DRs K H vs ds → DRs K H vs.reverse ds.reverse
  | _, _, .nil => .nil
  | _, _, .cons a t => by
    rw [List.reverse_cons, List.reverse_cons]
    exact t.rev.app (.cons a .nil)
theorem DRs.take : ∀ {vs : List V} {ds : List D} (n : Nat), DRs K H vs ds → DRs K H (vs.take n) (ds.take n)
  | _, _, n, .nil => by simpa using DRs.nil
  | _, _, 0, _ => .nil
  | _, _, n + 1, .cons a t => .cons a (t.take n)
theorem DRs.drop : ∀ {vs : List V} {ds : List D} (n : Nat), DRs K H vs ds → DRs K H (vs.drop n) (ds.drop n)
  | _, _, n, .nil => by simpa using DRs.nil
  | _, _, 0, h => h
  | _, _, n + 1, .cons a t => by simpa using t.drop n
theorem DRs.rep {vs : List V} {ds : List D} (h : DRs K H vs ds) : ∀ n : Nat, DRs K H (List.replicate n vs).flatten (List.replicate n ds).flatten
  | 0 => .nil
  | n + 1 => by
    rw [List.replicate_succ, List.replicate_succ, List.flatten_cons, List.flatten_cons]
    exact h.app (h.rep n)
theorem DRs.ints : ∀ {ns : List Int} {vs : List V}, DRs K H vs (ns.map D.int) → vs = ns.map V.int
  | [], _, .nil => rfl
  | n :: ns, _, .cons h t => by
    cases h
    rw [t.ints]
    rfl
theorem DRs.of_ints : ∀ ns : List Int, DRs K H (ns.map V.int) (ns.map D.int)
  | [] => .nil
  | n :: ns => .cons (.int n) (DRs.of_ints ns)
theorem DRs.bls : ∀ {ns : List Bool} {vs : List V}, DRs K H vs (ns.map D.bl) → vs = ns.map V.bl
  | [], _, .nil => rfl
  | n :: ns, _, .cons h t => by
    cases h
    rw [t.bls]
    rfl
theorem DRs.strs : ∀ {ns : List Str} {vs : List V}, DRs K H vs (ns.map D.str) → vs = ns.map V.str
  | [], _, .nil => rfl
  | n :: ns, _, .cons h t => by
    cases h
    rw [t.strs]
    rfl
theorem DRs.one {v : V} {d : D} (h : DR K H v d) : DRs K H [v] [d] := .cons h .nil
end
/-- a told object changed, or a new one -/
def upM (M : DHp) (a : Addr) (o : DO) : DHp := fun b => if b = a then some o else M b
theorem upM_same {M : DHp} {a : Addr} {o : DO} : upM M a o a = some o := by unfold upM; rw [if_pos rfl]
theorem upM_ne {M : DHp} {a b : Addr} {o : DO} (h : b ≠ a) : upM M a o b = M b := by unfold upM; rw [if_neg h]
theorem upM_upM {M : DHp} {a : Addr} {o u : DO} : upM (upM M a o) a u = upM M a u := by
  funext b; unfold upM; split <;> rfl
theorem ne_none {M : DHp} {a b : Addr} {o : DO} (h : M a = some o) (h' : M b = none) : a ≠ b := by
  intro e; subst e; rw [h] at h'; cases h'
/-- fewer things told -/
def Les (M M' : DHp) : Prop := ∀ a o, M a = some o → M' a = some o
theorem Les.refl (M : DHp) : Les M M := fun _ _ h => h
theorem Les.trans {M M1 M2 : DHp} (a : Les M M1) (b : Les M1 M2) : Les M M2 := fun c o h => b c o (a c o h)
theorem les_up {M : DHp} {p : Addr} {o : DO} (h : M p = none) : Les M (upM M p o) := fun a u e => by
  rw [upM_ne (ne_none e h)]
  exact e
theorem Les.up {M M1 : DHp} (l : Les M M1) {p : Addr} {o : DO} (h : M p = none) : Les M (upM M1 p o) := fun a u e => by
  rw [upM_ne (ne_none e h)]
  exact l a u e
theorem Les.free {M M' : DHp} (l : Les M M') {p : Addr} (h : M' p = none) : M p = none := by
  cases q : M p with
  | none => rfl
  | some o => rw [l p o q] at h; cases h
theorem les_same {M M1 : DHp} (l : Les M M1) {p : Addr} {o : DO} : Les (upM M p o) (upM M1 p o) := fun a u e => by
  by_cases h : a = p
  · subst h; rw [upM_same] at e ⊢; exact e
  · rw [upM_ne h] at e ⊢; exact l a u e
section
variable {K : PySem.W.Frag} {H H' : Hp} {M M' : DHp}
theorem MR.les (m : MR K M' H) (l : Les M M') : MR K M H := fun a o h => m a o (l a o h)
theorem Les.nn {M M' : DHp} (l : Les M M') {a : Addr} (h : M' a = none) : M a = none := l.free h
theorem Fr.les {M1 : DHp} (f : Fr M H M' H') (l : Les M1 M') : Fr M H M1 H' := ⟨f.s, fun a o h n => let ⟨h1, n1⟩ := f.k a o h n; ⟨h1, l.free n1⟩⟩
theorem OR.ts {a : Addr} (e : TS0 H H') (k : H' a = H a) : ∀ {o : DO}, OR K H a o → OR K H' a o
  | .lst ds, ⟨vs, h, r⟩ => ⟨vs, k.trans h, r.ts e⟩
  | .frz ds, ⟨o, vs, h, r⟩ => ⟨o, vs, k.trans h, r.ts e⟩
  | .ins C fs, ⟨dx, fv, h, r⟩ => ⟨dx, fv, k.trans h, DFs.ts e r⟩
  | .raw u, h => k.trans h
  | .xd fs, ⟨fv, h, r⟩ => ⟨fv, k.trans h, DFs.ts e r⟩
  | .dic P w kvs, ⟨es, h, r⟩ => ⟨es, k.trans h, Paired.mapP r fun _ _ z => z.ts e⟩
  | .dki kvs, ⟨vs, h, r⟩ => ⟨vs, k.trans h, Paired.mapP r fun _ _ z => z.ts e⟩
/-- a new thing is laid, that no one tells -/
theorem ts_new {p : Addr} {o : HO} (h : H p = none) : TS0 H (upd H p o) := ⟨fun a xs e => by rw [upd_ne (ne_of_none e h)]; exact e, fun a u x e => by rw [upd_ne (ne_of_none e h)]; exact e, fun a e => by
    by_cases q : a = p
    · subst q; rw [upd_same] at e; cases e
    · rw [upd_ne q] at e; exact e⟩
theorem MR.free (m : MR K M H) {p : Addr} (h : H p = none) : M p = none := by
  cases q : M p with
  | none => rfl
  | some o =>
    have := m p o q
    cases o with
    | lst ds => obtain ⟨_, e, _⟩ := this; rw [h] at e; cases e
    | frz ds => obtain ⟨_, _, e, _⟩ := this; rw [h] at e; cases e
    | ins C fs => obtain ⟨_, _, e, _⟩ := this; rw [h] at e; cases e
    | raw o => have e : H p = some o := this; rw [h] at e; cases e
    | xd fs => obtain ⟨_, e, _⟩ := this; rw [h] at e; cases e
    | dic P w kvs => obtain ⟨_, e, _⟩ := this; rw [h] at e; cases e
    | dki kvs => obtain ⟨_, e, _⟩ := this; rw [h] at e; cases e
/-- what stands there stands in the heap -/
theorem MR.there (m : MR K M H) {p : Addr} {o : DO} (q : M p = some o) : ∃ u, H p = some u := by
  cases e : H p with
  | some u => exact ⟨u, rfl⟩
  | none => rw [m.free e] at q; cases q
/-- a new object, told -/
theorem MR.new (m : MR K M H) {p : Addr} {o : HO} {d : DO} (h : H p = none) (x : OR K (upd H p o) p d) : MR K (upM M p d) (upd H p o) ∧ Fr M H (upM M p d) (upd H p o) := by
  refine ⟨fun a u e => ?_, ts_new h, fun a u e n => ?_⟩
  · by_cases q : a = p
    · subst q; rw [upM_same] at e; cases e; exact x
    · rw [upM_ne q] at e
      exact (m a u e).ts (ts_new h) (upd_ne q)
  · have q := ne_of_none e h
    rw [upd_ne q, upM_ne q]
    exact ⟨e, n⟩
/-- a new object that no one tells -/
theorem MR.hid (m : MR K M H) {p : Addr} {o : HO} (h : H p = none) : MR K M (upd H p o) ∧ Fr M H M (upd H p o) := by
  refine ⟨fun a u e => ?_, ts_new h, fun a u e n => ?_⟩
  · obtain ⟨v, hv⟩ := m.there e
    exact (m a u e).ts (ts_new h) (upd_ne (ne_of_none hv h))
  · rw [upd_ne (ne_of_none e h)]
    exact ⟨e, n⟩
/-- a told list changed -/
theorem MR.put (m : MR K M H) {p : Addr} {vs : List V} {o : HO} {d u : DO} (h : H p = some (.lst vs)) (hm : M p = some u) (x : OR K (upd H p o) p d) : MR K (upM M p d) (upd H p o) ∧ Fr M H (upM M p d) (upd H p o) := by
  have t : TS0 H (upd H p o) := ⟨fun a xs e => by
    by_cases q : a = p
    · subst q; rw [h] at e; cases e
    · rw [upd_ne q]; exact e, fun a z xs e => by
    by_cases q : a = p
    · subst q; rw [h] at e; cases e
    · rw [upd_ne q]; exact e, fun a e => by
    by_cases q : a = p
    · subst q; rw [upd_same] at e; cases e
    · rw [upd_ne q] at e; exact e⟩
  refine ⟨fun a u e => ?_, t, fun a u e n => ?_⟩
  · by_cases q : a = p
    · subst q; rw [upM_same] at e; cases e; exact x
    · rw [upM_ne q] at e
      exact (m a u e).ts t (upd_ne q)
  · have q : a ≠ p := fun z => by subst z; rw [hm] at n; cases n
    rw [upd_ne q, upM_ne q]
    exact ⟨e, n⟩
/-- one list for another, each by what it says -/
theorem MR.lnew (m : MR K M H) {p : Addr} {vs : List V} {ds : List D} (h : H p = none) (r : DRs K H vs ds) : MR K (upM M p (.lst ds)) (upd H p (.lst vs)) ∧ Fr M H (upM M p (.lst ds)) (upd H p (.lst vs)) :=
  m.new h ⟨vs, upd_same, r.ts (ts_new h)⟩
theorem ts_put {p : Addr} {vs : List V} {o : HO} (h : H p = some (.lst vs)) : TS0 H (upd H p o) := ⟨fun a xs e => by
    by_cases q : a = p
    · subst q; rw [h] at e; cases e
    · rw [upd_ne q]; exact e, fun a z xs e => by
    by_cases q : a = p
    · subst q; rw [h] at e; cases e
    · rw [upd_ne q]; exact e, fun a e => by
    by_cases q : a = p
    · subst q; rw [upd_same] at e; cases e
    · rw [upd_ne q] at e; exact e⟩
theorem MR.lput (m : MR K M H) {p : Addr} {us vs : List V} {ds : List D} {u : DO} (h : H p = some (.lst us)) (hm : M p = some u) (r : DRs K H vs ds) : MR K (upM M p (.lst ds)) (upd H p (.lst vs)) ∧ Fr M H (upM M p (.lst ds)) (upd H p (.lst vs)) :=
  m.put h hm ⟨vs, upd_same, r.ts (ts_put h)⟩
/-- a told thing that is no tuple changed -/
theorem MR.putG (m : MR K M H) {p : Addr} {u o : HO} {d ud : DO} (h : H p = some u) (n1 : ∀ xs, u ≠ .tup xs) (n2 : ∀ z v, u ≠ .frz z v) (hm : M p = some ud) (x : TS0 H (upd H p o) → OR K (upd H p o) p d) : MR K (upM M p d) (upd H p o) ∧ Fr M H (upM M p d) (upd H p o) := by
  have t : TS0 H (upd H p o) := ⟨fun a xs e => by
    by_cases q : a = p
    · subst q; rw [h] at e; exact absurd (Option.some.inj e) (n1 _)
    · rw [upd_ne q]; exact e, fun a z xs e => by
    by_cases q : a = p
    · subst q; rw [h] at e; exact absurd (Option.some.inj e) (n2 _ _)
    · rw [upd_ne q]; exact e, fun a e => by
    by_cases q : a = p
    · subst q; rw [upd_same] at e; cases e
    · rw [upd_ne q] at e; exact e⟩
  refine ⟨fun a u e => ?_, t, fun a u e n => ?_⟩
  · by_cases q : a = p
    · subst q; rw [upM_same] at e; cases e; exact x t
    · rw [upM_ne q] at e
      exact (m a u e).ts t (upd_ne q)
  · have q : a ≠ p := fun z => by subst z; rw [hm] at n; cases n
    rw [upd_ne q, upM_ne q]
    exact ⟨e, n⟩
/-- a new tuple -/
theorem MR.tnew (m : MR K M H) {p : Addr} {o : Obj} (ho : o.dict = none) {vs : List V} {ds : List D} (h : H p = none) (r : DRs K H vs ds) : DR K (upd H p (.frz o (.tup vs))) (.ref p) (.tup ds) ∧ MR K M (upd H p (.frz o (.tup vs))) ∧ Fr M H M (upd H p (.frz o (.tup vs))) :=
  ⟨.tup ⟨o, upd_same, ho⟩ (r.ts (ts_new h)), m.hid h⟩
end
/-- where a def began -/
structure Bs where
  M : DHp
  H : Hp
structure MB (K : PySem.W.Frag) (B : Bs) (M : DHp) (H : Hp) : Prop where
  m : MR K M H
  b : Fr B.M B.H M H
section
variable {K : PySem.W.Frag} {B : Bs} {H H' : Hp} {M M' : DHp}
theorem MB.free (m : MB K B M H) {p : Addr} (h : H p = none) : M p = none := m.m.free h
theorem MB.there (m : MB K B M H) {p : Addr} {o : DO} (q : M p = some o) : ∃ u, H p = some u := m.m.there q
theorem MB.hid (m : MB K B M H) {p : Addr} {o : HO} (h : H p = none) : MB K B M (upd H p o) ∧ Fr M H M (upd H p o) := let ⟨a, b⟩ := m.m.hid h; ⟨⟨a, m.b.trans b⟩, b⟩
theorem MB.new (m : MB K B M H) {p : Addr} {o : HO} {d : DO} (h : H p = none) (x : OR K (upd H p o) p d) : MB K B (upM M p d) (upd H p o) ∧ Fr M H (upM M p d) (upd H p o) := let ⟨a, b⟩ := m.m.new h x; ⟨⟨a, m.b.trans b⟩, b⟩
theorem MB.lnew (m : MB K B M H) {p : Addr} {vs : List V} {ds : List D} (h : H p = none) (r : DRs K H vs ds) : MB K B (upM M p (.lst ds)) (upd H p (.lst vs)) ∧ Fr M H (upM M p (.lst ds)) (upd H p (.lst vs)) := let ⟨a, b⟩ := m.m.lnew h r; ⟨⟨a, m.b.trans b⟩, b⟩
theorem MB.lput (m : MB K B M H) {p : Addr} {us vs : List V} {ds : List D} {u : DO} (h : H p = some (.lst us)) (hm : M p = some u) (r : DRs K H vs ds) : MB K B (upM M p (.lst ds)) (upd H p (.lst vs)) ∧ Fr M H (upM M p (.lst ds)) (upd H p (.lst vs)) :=
  let ⟨a, b⟩ := m.m.lput h hm r; ⟨⟨a, m.b.trans b⟩, b⟩
theorem MB.putG (m : MB K B M H) {p : Addr} {u o : HO} {d ud : DO} (h : H p = some u) (n1 : ∀ xs, u ≠ .tup xs) (n2 : ∀ z v, u ≠ .frz z v) (hm : M p = some ud) (x : TS0 H (upd H p o) → OR K (upd H p o) p d) : MB K B (upM M p d) (upd H p o) ∧ Fr M H (upM M p d) (upd H p o) :=
  let ⟨a, b⟩ := m.m.putG h n1 n2 hm x; ⟨⟨a, m.b.trans b⟩, b⟩
theorem MB.tnew (m : MB K B M H) {p : Addr} {o : Obj} (ho : o.dict = none) {vs : List V} {ds : List D} (h : H p = none) (r : DRs K H vs ds) : DR K (upd H p (.frz o (.tup vs))) (.ref p) (.tup ds) ∧ MB K B M (upd H p (.frz o (.tup vs))) ∧ Fr M H M (upd H p (.frz o (.tup vs))) :=
  let ⟨a, b, c⟩ := m.m.tnew ho h r; ⟨a, ⟨b, m.b.trans c⟩, c⟩
theorem MB.les (m : MB K B M' H) (l : Les M M') : MB K B M H := ⟨m.m.les l, m.b.les l⟩
end
/-! ### what is read of a piece of the text -/
abbrev DTE := DSt → DHp → DK → Prop
abbrev DTT := DSt → DHp → (Bool → DHp → Prop) → Prop
abbrev DTA := DSt → DHp → (List D → DHp → Prop) → Prop
inductive SR (K : PySem.W.Frag) (H : Hp) : VS → DSt → Prop
  | nil : SR K H [] []
  | cons {v : V} {d : D} {σ : VS} {s : DSt} : DR K H v d → SR K H σ s → SR K H (some v :: σ) (some d :: s)
  | skip {o : Option V} {σ : VS} {s : DSt} : SR K H σ s → SR K H (o :: σ) (none :: s)
section
variable {K : PySem.W.Frag} {B : Bs} {H H' : Hp} {M M' : DHp}
theorem SR.ts (e : TS0 H H') : ∀ {σ : VS} {s : DSt}, SR K H σ s → SR K H' σ s
  | _, _, .nil => .nil
  | _, _, .cons h t => .cons (h.ts e) (t.ts e)
  | _, _, .skip t => .skip (t.ts e)
theorem SR.get : ∀ {σ : VS} {s : DSt}, SR K H σ s → ∀ {i : Nat} {d : D}, s[i]? = some (some d) → ∃ v, σ[i]? = some (some v) ∧ DR K H v d
  | _, _, .nil, i, d, h => by simp at h
  | _, _, .cons (v := v) h t, 0, d, e => ⟨v, rfl, by
    have e' : some _ = some d := Option.some.inj e
    cases e'
    exact h⟩
  | _, _, .skip t, 0, d, e => by cases Option.some.inj e
  | _, _, .cons h t, i + 1, d, e => t.get (i := i) (by simpa using e)
  | _, _, .skip t, i + 1, d, e => t.get (i := i) (by simpa using e)
theorem SR.set {v : V} {d : D} (h : DR K H v d) : ∀ {σ : VS} {s : DSt} {i : Nat}, SR K H σ s → SR K H (σ.set i (some v)) (s.set i (some d))
  | _, _, _, .nil => .nil
  | _, _, 0, .cons _ t => .cons h t
  | _, _, 0, .skip t => .cons h t
  | _, _, i + 1, .cons a t => .cons a (SR.set h t)
  | _, _, i + 1, .skip t => .skip (SR.set h t)
theorem SR.noneAt : ∀ {σ : VS} {s : DSt} {i : Nat} {o : Option V}, SR K H σ s → SR K H (σ.set i o) (s.set i none)
  | _, _, _, _, .nil => .nil
  | _, _, 0, _, .cons _ t => .skip t
  | _, _, 0, _, .skip t => .skip t
  | _, _, i + 1, _, .cons a t => .cons a (SR.noneAt t)
  | _, _, i + 1, _, .skip t => .skip (SR.noneAt t)
theorem SR.start : ∀ {vs : List V} {ds : List D} (n : Nat), DRs K H vs ds → SR K H (vs.map some ++ List.replicate n none) (ds.map some ++ List.replicate n none)
  | _, _, 0, .nil => .nil
  | _, _, n + 1, .nil => .skip (SR.start n .nil)
  | _, _, n, .cons h t => .cons h (SR.start n t)
/-- fewer slots told -/
def Lss (s s' : DSt) : Prop := s.length = s'.length ∧ ∀ (i : Nat) (d : D), s[i]? = some (some d) → s'[i]? = some (some d)
theorem SR.lss : ∀ {σ : VS} {s s' : DSt}, SR K H σ s' → Lss s s' → SR K H σ s
  | _, [], [], .nil, _ => .nil
  | _, x :: s, [], .nil, h => by cases h.1
  | _, [], _ :: _, _, h => by cases h.1
  | _, x :: s, _ :: _, .cons (d := d) a t, h => by
    have r : Lss s _ := ⟨Nat.succ.inj h.1, fun i d e => by simpa using h.2 (i + 1) d (by simpa using e)⟩
    cases x with
    | none => exact .skip (t.lss r)
    | some y =>
      have := h.2 0 y rfl
      cases this
      exact .cons a (t.lss r)
  | _, x :: s, _ :: _, .skip t, h => by
    have r : Lss s _ := ⟨Nat.succ.inj h.1, fun i d e => by simpa using h.2 (i + 1) d (by simpa using e)⟩
    cases x with
    | none => exact .skip (t.lss r)
    | some y =>
      have := h.2 0 y rfl
      cases this
end
theorem Lss.refl (s : DSt) : Lss s s := ⟨rfl, fun _ _ h => h⟩
/-- what is wanted of a value behind -/
def Wv (K : PySem.W.Frag) (B : Bs) (M : DHp) (H : Hp) (P : DK) (Q : VK) : Prop := ∀ d M', P d M' → ∀ v H', DR K H' v d → MB K B M' H' → Fr M H M' H' → Q v H'
def Wb (K : PySem.W.Frag) (B : Bs) (M : DHp) (H : Hp) (P : Bool → DHp → Prop) (Q : Bool → Hp → Prop) : Prop := ∀ d M', P d M' → ∀ H', MB K B M' H' → Fr M H M' H' → Q d H'
def Wl (K : PySem.W.Frag) (B : Bs) (M : DHp) (H : Hp) (P : List D → DHp → Prop) (Q : List V → Hp → Prop) : Prop := ∀ d M', P d M' → ∀ v H', DRs K H' v d → MB K B M' H' → Fr M H M' H' → Q v H'
def liE (K : PySem.W.Frag) (B : Bs) (t : DTE) : TE := fun σ H Q => ∃ s M P, SR K H σ s ∧ MB K B M H ∧ t s M P ∧ Wv K B M H P Q
def liT (K : PySem.W.Frag) (B : Bs) (t : DTT) : TT := fun σ H Q => ∃ s M P, SR K H σ s ∧ MB K B M H ∧ t s M P ∧ Wb K B M H P Q
def liA (K : PySem.W.Frag) (B : Bs) (t : DTA) : TA := fun σ H Q => ∃ s M P, SR K H σ s ∧ MB K B M H ∧ t s M P ∧ Wl K B M H P Q
structure DE (X : Cx) (B : Bs) (e : Expr) (t : DTE) : Prop where
  run : PE X e (liE X.K B t)
structure DT (X : Cx) (B : Bs) (e : Expr) (t : DTT) : Prop where
  run : PT X e (liT X.K B t)
structure DW (X : Cx) (B : Bs) (e : Expr) (t : DTT) : Prop where
  run : PW X e (liT X.K B t)
structure DA (X : Cx) (B : Bs) (es : List Expr) (t : DTA) : Prop where
  run : PA X es (liA X.K B t)
theorem peI {X : Cx} {e : Expr} {t t' : TE} (h : PE X e t) (i : ∀ σ H Q, t' σ H Q → t σ H Q) : PE X e t' := ⟨fun pins s σ H Q I q => h.run pins s σ H Q I (i _ _ _ q)⟩
theorem ptI {X : Cx} {e : Expr} {t t' : TT} (h : PT X e t) (i : ∀ σ H Q, t' σ H Q → t σ H Q) : PT X e t' := ⟨fun pins s σ H Q I q => h.run pins s σ H Q I (i _ _ _ q)⟩
theorem pwI {X : Cx} {e : Expr} {t t' : TT} (h : PW X e t) (i : ∀ σ H Q, t' σ H Q → t σ H Q) : PW X e t' := ⟨fun wh pins s σ H Q I q => h.run wh pins s σ H Q I (i _ _ _ q)⟩
theorem paI {X : Cx} {e : List Expr} {t t' : TA} (h : PA X e t) (i : ∀ σ H Q, t' σ H Q → t σ H Q) : PA X e t' := ⟨fun pos pins s σ H Q I q => h.run pos pins s σ H Q I (i _ _ _ q)⟩
theorem psI {X : Cx} {e : Stmt} {t t' : TS} (h : PS X e t) (i : ∀ D σ H, t' D σ H → t D σ H) : PS X e t' := ⟨fun pins s σ H D I q => h.run pins s σ H D I (i _ _ _ q)⟩
theorem pssI {X : Cx} {e : List Stmt} {t t' : TS} (h : PSs X e t) (i : ∀ D σ H, t' D σ H → t D σ H) : PSs X e t' := ⟨fun pins s σ H D I q => h.run pins s σ H D I (i _ _ _ q)⟩
theorem Wv.go {K : PySem.W.Frag} {B : Bs} {M M1 : DHp} {H H1 : Hp} {P : DK} {Q : VK} (w : Wv K B M H P Q) (f : Fr M H M1 H1) : Wv K B M1 H1 P Q := fun d M' p v H' r m g => w d M' p v H' r m (f.trans g)
theorem Wb.go {K : PySem.W.Frag} {B : Bs} {M M1 : DHp} {H H1 : Hp} {P : Bool → DHp → Prop} {Q : Bool → Hp → Prop} (w : Wb K B M H P Q) (f : Fr M H M1 H1) : Wb K B M1 H1 P Q := fun d M' p H' m g => w d M' p H' m (f.trans g)
theorem Wl.go {K : PySem.W.Frag} {B : Bs} {M M1 : DHp} {H H1 : Hp} {P : List D → DHp → Prop} {Q : List V → Hp → Prop} (w : Wl K B M H P Q) (f : Fr M H M1 H1) : Wl K B M1 H1 P Q := fun d M' p v H' r m g => w d M' p v H' r m (f.trans g)
/-- one expression, then more -/
theorem liE_then {K : PySem.W.Frag} {B : Bs} {t : DTE} {σ : VS} {s : DSt} {H : Hp} {M : DHp} {P : DK} {Q : VK} (hs : SR K H σ s) (hm : MB K B M H) (h : t s M P)
    (k : ∀ d M1 v H1, P d M1 → DR K H1 v d → MB K B M1 H1 → Fr M H M1 H1 → SR K H1 σ s → Q v H1) : liE K B t σ H Q := ⟨s, M, P, hs, hm, h, fun d M1 p v H1 r m f => k d M1 v H1 p r m f (hs.ts f.s)⟩
theorem liT_then {K : PySem.W.Frag} {B : Bs} {t : DTT} {σ : VS} {s : DSt} {H : Hp} {M : DHp} {P : Bool → DHp → Prop} {Q : Bool → Hp → Prop} (hs : SR K H σ s) (hm : MB K B M H) (h : t s M P)
    (k : ∀ d M1 H1, P d M1 → MB K B M1 H1 → Fr M H M1 H1 → SR K H1 σ s → Q d H1) : liT K B t σ H Q := ⟨s, M, P, hs, hm, h, fun d M1 p H1 m f => k d M1 H1 p m f (hs.ts f.s)⟩
theorem liA_then {K : PySem.W.Frag} {B : Bs} {t : DTA} {σ : VS} {s : DSt} {H : Hp} {M : DHp} {P : List D → DHp → Prop} {Q : List V → Hp → Prop} (hs : SR K H σ s) (hm : MB K B M H) (h : t s M P)
    (k : ∀ d M1 v H1, P d M1 → DRs K H1 v d → MB K B M1 H1 → Fr M H M1 H1 → SR K H1 σ s → Q v H1) : liA K B t σ H Q := ⟨s, M, P, hs, hm, h, fun d M1 p v H1 r m f => k d M1 v H1 p r m f (hs.ts f.s)⟩
end DL
set_option linter.all false
/-! new tuples, whose objects are known: no dict -/
namespace DL
open PySem PySem.Spec PyProof.Rows L2
section
variable {X : Cx} {pins : List (Addr × Obj)} {σ : VS} {H : Hp} {s : Shared}
/-- laid at the end of the heap -/
theorem frz_new {h : Heap} {vs : List V} {its : List Value} (z : vs.length ≤ sizeLine) (r : Vals vs its) (P : Program) (w : World) (H : Hp) :
    ObjOk P w H (h.push { cls := .type "tuple", data := .seq its.toArray }) h.objs.size (.frz { cls := .type "tuple", data := .seq its.toArray } (.tup vs)) :=
  ⟨Heap.get?_push_size _ rfl, z, its, r, IsTup.new _ _⟩
theorem frz_inv {vs : List V} {its : List Value} (I : Inv X pins σ H s) (z : vs.length ≤ sizeLine) (r : Vals vs its) :
    Inv X pins σ (upd H s.heap.objs.size (.frz { cls := .type "tuple", data := .seq its.toArray } (.tup vs))) { s with heap := s.heap.push { cls := .type "tuple", data := .seq its.toArray } } :=
  I.laid (t' := s.toks) (fun _ _ q => Heap.get?_push_of_some _ q) (Nat.le_refl _) (frz_new z r _ _ _)
/-- what is wanted of a new tuple -/
def newT (vs : List V) (H : Hp) (Q : VK) : Prop := ∀ p o, H p = none → o.dict = none → Q (.ref p) (upd H p (.frz o (.tup vs)))
theorem newT_go {vs : List V} {its : List Value} {Q : VK} (I : Inv X pins σ H s) (z : vs.length ≤ sizeLine) (r : Vals vs its) (q : newT vs H Q) : EP X pins σ Q (.ref s.heap.objs.size) { s with heap := s.heap.push { cls := .type "tuple", data := .seq its.toArray } } :=
  ⟨.ref s.heap.objs.size, _, frz_inv I z r, rfl, q _ _ (I.hok.fresh (Nat.le_refl _)) rfl⟩
end
def tTupN (t : TA) : TE := fun σ H Q => t σ H fun vs H1 => vs.length ≤ sizeLine ∧ newT vs H1 Q
section
variable {X : Cx} {es : List Expr} {t : TA} {pos : Pos}
theorem pe_tupN {x1} (ht : PA X es t) : PE X (.Tuple es x1 pos) (tTupN t) := ⟨fun pins s σ H Q I hq =>
  wpAny_Tuple_spliced (thn (ht.run pos pins s σ H _ I hq) fun us s1 ⟨xs, H1, I1, r, z, q⟩ => ⟨by have := r.length; omega, newT_go I1 z r q⟩)⟩
/-- t + u -/
def rCatN (K : PySem.W.Frag) : R2 := fun x y H Q => ∃ a b xs ys, x = .ref a ∧ y = .ref b ∧ SqT K H a xs ∧ SqT K H b ys ∧ xs.length + ys.length ≤ sizeLine ∧ (xs = [] → Q (.ref b) H) ∧ (xs ≠ [] → ys = [] → Q (.ref a) H) ∧ (xs ≠ [] → ys ≠ [] → newT (xs ++ ys) H Q)
theorem op_catN : OpR X (binaryOp .Add) (rCatN X.K) := fun pins s σ H x y v u Q I rx ry ⟨a, b, xs, ys, e1, e2, ha, hb, hz, q0, q1, q2⟩ => by
  subst e1 e2
  cases rx
  cases ry
  obtain ⟨is, r1, p1, _⟩ := I.tuple ha
  obtain ⟨js, r2, p2, _⟩ := I.tuple hb
  by_cases n1 : xs = []
  · subst n1
    cases r1
    exact cat_tup0 p1 p2 ⟨.ref b, H, I, rfl, q0 rfl⟩
  · have m1 : is ≠ [] := fun z => n1 (r1.nil_iff.mp z)
    have len : is.length + js.length ≤ sizeLine := by rw [← r1.length, ← r2.length]; exact hz
    refine HT.cat_tup p1 p2 m1 (fun z => ⟨.ref a, H, I, rfl, q1 n1 (r2.nil_iff.mp z)⟩) (fun z => ?_) len
    exact newT_go I (by rw [List.length_append]; exact hz) (r1.append r2) (q2 n1 fun k => z (r2.nil_iff.mpr k))
/-- t[lo:hi] -/
def rCutN (K : PySem.W.Frag) : V → Option Int → Option Int → Hp → VK → Prop := fun x lo hi H Q => ∃ a xs, x = .ref a ∧ SqT K H a xs ∧
  (HT.sIx xs.length 0 lo = 0 ∧ HT.sIx xs.length xs.length hi = xs.length → Q (.ref a) H) ∧ (¬ (HT.sIx xs.length 0 lo = 0 ∧ HT.sIx xs.length xs.length hi = xs.length) → newT (cutV xs lo hi) H Q)
theorem sl_cutN : SlR X (rCutN X.K) := fun pins s σ H x v vl vu lo hi sl Q I rx hs pl pu ⟨a, xs, e, hx, q1, q2⟩ => by
  subst e
  cases rx
  obtain ⟨is, r, p, hz⟩ := I.tuple hx
  have ln : is.toArray.size = xs.length := by have := r.length; rw [List.size_toArray]; omega
  refine ⟨"tuple", _, PyProof.Rows.slot_tuple_getitem.lookup, p.typeIs, ?_⟩
  by_cases hw : HT.sIx xs.length 0 lo = 0 ∧ HT.sIx xs.length xs.length hi = xs.length
  · exact getItem_tuple_whole p hs pl pu (ln ▸ hw) ⟨.ref a, H, I, rfl, q1 hw⟩
  · refine HT.getItem_tuple_cut p hs pl pu (ln ▸ hw) ?_ (ln ▸ hz)
    rw [ln]
    exact newT_go I (Nat.le_trans (cutV_length xs lo hi) hz) ((r.drop (HT.sIx xs.length 0 lo)).take (HT.sIx xs.length xs.length hi - HT.sIx xs.length 0 lo)) (q2 hw)
/-- tuple(x) -/
def rTupN (K : PySem.W.Frag) : List V → Hp → VK → Prop := fun xs H Q => ∃ p ys, xs = [.ref p] ∧ ((SqL K H p ys ∧ newT ys H Q) ∨ (SqT K H p ys ∧ Q (.ref p) H))
theorem cr_tupN : CallR X (.type "tuple") (rTupN X.K) := fun pins s σ H xs us Q I r ⟨p, ys, e, h⟩ => by
  subst e
  obtain ⟨u, rfl, ru⟩ := vals1 r
  cases ru
  rcases h with ⟨hq, q⟩ | ⟨hq, q⟩
  · obtain ⟨is, r2, pl, hz⟩ := I.list hq
    have ln := r2.length
    refine call_tuple_list pl.isList (fun h' kp => ?_) (by rw [List.size_toArray]; omega)
    exact newT_go (s := { s with heap := h' }) (I.kept (t' := s.toks) kp) hz r2 q
  · obtain ⟨is, r2, pl, _⟩ := I.tuple hq
    exact call_tuple_same pl ⟨.ref p, H, I, rfl, q⟩
/-- tuple(range(..)) -/
def tRgN (te : VS → Hp → (Int → Int → Hp → Prop) → Prop) : TE := fun σ H Q => te σ H fun a b H1 => RgOk a b ∧ newT (rgV a b) H1 Q
theorem pe_rgN {f : Expr} {tf : VS → Hp → (Int → Int → Hp → Prop) → Prop} {p1 p2 : Pos} (calm : X.calm = true) (gl : Gl X "tuple") (no : X.mg "tuple" = none) (hf : PRg X f tf) (one : starEach [f] X.env = (false, eval f X.env) :: starEach [] X.env := by rfl) :
    PE X (.Call (.Name "tuple" p1) [f] [] p2) (tRgN tf) := ⟨fun pins s σ H Q I h =>
  Call_ (ld_blt I gl no boot_tuple (PyProof.Rows.callWith_type1 (args_cons (thn (hf pins s σ H _ I h) fun u s1 ⟨r, a, b, t1, t2, v, H1, eu, isr, I1, ⟨c1, c2, c3, c4, c5⟩, q⟩ => args_nil (by
    subst eu
    refine call_tuple_range (n := (b - a).toNat) (I1.ok.hd calm) isr (small_one c1 c2 c3 c4) (rangeSize_nat a b) c5 fun h' tk acc keep hin => ?_
    have I2 : Inv X pins σ H1 { s1 with heap := h', toks := tk } := I1.kept keep
    have := newT_go (its := acc.toList) I2 (by rw [rgV_length, sizeLine_eq]; omega) (vals_rg hin) q
    rw [Array.toArray_toList] at this
    exact this)) one) one))⟩
end
/-- the list at a, each item in a new pair -/
def IteL (K : PySem.W.Frag) (a : Addr) : It :=
  ⟨fun i H => ∃ (xs : List V) (x : V), SqL K H a xs ∧ xs[i]? = some x,
    fun i H v H' => ∃ (T : Addr) (x : V) (o : Obj), v = .ref T ∧ H T = none ∧ o.dict = none ∧ H' = upd H T (.frz o (.tup [.int (i : Nat), x])) ∧ ∀ xs, SqL K H a xs → xs[i]? = some x,
    fun i H => ∃ xs : List V, SqL K H a xs ∧ xs.length ≤ i⟩
theorem turn_enumL {P : Program} {w : World} {K : PySem.W.Frag} {elts : List Expr} {kk : Nat} {tpos : Pos} (a e it : Addr) :
    Turn P w K (.Tuple elts kk tpos) (IteL K a) [e, it] e (fun i h => (∃ old, IsEnum h e it ((i : Nat) : Int) old) ∧ h.IsListIter it a i ∧ e ≠ it) where
  mem := by simp
  obj := fun i h ⟨⟨old, he⟩, ⟨o, ho, hc, hd⟩, _⟩ b hb => by
    have q : b = e ∨ b = it := by simpa using hb
    rcases q with rfl | rfl
    · exact ⟨_, he, fun v z => nomatch z⟩
    · exact ⟨o, ho, fun v z => by rw [hd] at z; cases z⟩
  keep := fun i h h' ⟨⟨old, he⟩, hi, hne⟩ k => ⟨⟨old, k e (by simp) _ he⟩, hi.at fun o q => k it (by simp) o q, hne⟩
  item := by
    intro X e1 e2 e3 calm i pins s σ H E I free ⟨⟨old, he⟩, li, ne⟩ ⟨xs, x, hq, hx⟩
    subst e1 e2 e3
    obtain ⟨its, rv, pl, _⟩ := I.list hq
    obtain ⟨u, hu, ru⟩ := rv.get hx
    have b1 : e < s.heap.objs.size := Heap.lt_size he
    have b2 : it < s.heap.objs.size := let ⟨_, q, _⟩ := li; Heap.lt_size q
    refine wpAny_pyNext_enum_item he li pl.isList (x := u) (by simpa using hu) ne fun g1 on li2 tup sz keep => ?_
    refine ⟨_, rfl, wpAny_letOwnedTupleGo_enum (s := { s with heap := g1, toks := s.toks + 1 }) on fun g2 e2 sb => ?_⟩
    have at2 := (sb.2 _ (Nat.ne_of_gt b1)).trans tup
    have new : ObjOk X.prog X.w (upd H s.heap.objs.size (.frz { cls := .type "tuple", data := .seq #[.int i s.toks, u] } (.tup [.int (i : Nat), x]))) g2 s.heap.objs.size (.frz { cls := .type "tuple", data := .seq #[.int i s.toks, u] } (.tup [.int (i : Nat), x])) :=
      ⟨at2, by show 2 ≤ sizeLine; decide, [.int i s.toks, u], .cons ⟨_, rfl⟩ (.cons ru .nil), ⟨_, at2, rfl, _, rfl⟩⟩
    have J := I.turnedNew (t' := s.toks + 1) (ch := [e, it]) (fun b ob hb q => (sb.2 b fun z => hb (by simp [z])).trans (keep b ob (fun z => hb (by simp [z])) (fun z => hb (by simp [z])) q)) free (Nat.le_refl _) new
    refine ⟨.ref s.heap.objs.size, _, J, rfl, ⟨_, x, _, rfl, I.hok.fresh (Nat.le_refl _), rfl, rfl, fun ys hy => by rw [I.list_inj hy hq]; exact hx⟩, ⟨⟨u, ?_⟩, li2.at fun o q => (sb.2 it (Ne.symm ne)).trans q, ne⟩, fun b hb => ?_⟩
    · rw [show ((i + 1 : Nat) : Int) = (i : Int) + 1 by omega]
      exact e2
    · have lt : b < s.heap.objs.size := by
        have q : b = e ∨ b = it := by simpa using hb
        rcases q with rfl | rfl
        · exact b1
        · exact b2
      rw [upd_ne (Nat.ne_of_lt lt)]
      exact (free b hb).1
  done := by
    intro X e1 e2 e3 calm i pins s σ H E I free ⟨⟨old, he⟩, li, ne⟩ ⟨xs, hq, hx⟩
    subst e1 e2 e3
    obtain ⟨its, rv, pl, _⟩ := I.list hq
    obtain ⟨f0, f1, f2, f3, f4, f5⟩ := free it (by simp)
    have ln := rv.length
    exact wpAny_pyNext_enum_end (I.ok.hd calm) he li pl.isList (by simp; omega) fun g eb => ⟨rfl, I.turned (t' := s.toks) (fun b o hb q => eb b o hb q) f0 f1 f3 f4 f5⟩
  self := fun A i s Q E ⟨⟨_, he⟩, _⟩ h => wpAny_pyIter_enum he h
end DL
set_option linter.all false
/-! expressions over values -/
namespace DL
open PySem PySem.Spec PyProof.Rows L2
abbrev DOp := D → D → DHp → DK → Prop
abbrev DCm := D → D → DHp → (Bool → DHp → Prop) → Prop
abbrev DFn := List D → DHp → DK → Prop
def liR (K : PySem.W.Frag) (B : Bs) (op : DOp) : R2 := fun x y H Q => ∃ a b M P, DR K H x a ∧ DR K H y b ∧ MB K B M H ∧ op a b M P ∧ Wv K B M H P Q
def liC (K : PySem.W.Frag) (B : Bs) (r : DFn) : List V → Hp → VK → Prop := fun vs H Q => ∃ ds M P, DRs K H vs ds ∧ MB K B M H ∧ r ds M P ∧ Wv K B M H P Q
def asV (c : DCm) : DOp := fun a b M Q => c a b M fun k M1 => Q (.bl k) M1
def liQ (K : PySem.W.Frag) (B : Bs) (c : DCm) : R2 := liR K B (asV c)
/-! ### what they say -/
def dVar (i : Nat) : DTE := fun s M Q => match s[i]? with
  | some (some d) => Q d M
  | _ => False
def dC (d : D) : DTE := fun _ M Q => Q d M
def dOp (o : DOp) (ta tb : DTE) : DTE := fun s M Q => ta s M fun x M1 => tb s M1 fun y M2 => o x y M2 Q
def dCmp (o : DCm) (ta tb : DTE) : DTE := fun s M Q => ta s M fun x M1 => tb s M1 fun y M2 => o x y M2 fun k M3 => Q (.bl k) M3
def tCmp (o : DCm) (ta tb : DTE) : DTT := fun s M Q => ta s M fun x M1 => tb s M1 fun y M2 => o x y M2 Q
def ifB (b : Bool) (A B : Prop) : Prop := match b with
  | true => A
  | false => B
theorem ifB_mk {b : Bool} {A B : Prop} (h1 : b = true → A) (h2 : b = false → B) : ifB b A B := by
  cases b with
  | true => exact h1 rfl
  | false => exact h2 rfl
theorem ifB_t {b : Bool} {A B : Prop} (h : b = true) (a : A) : ifB b A B := by rw [h]; exact a
theorem ifB_f {b : Bool} {A B : Prop} (h : b = false) (a : B) : ifB b A B := by rw [h]; exact a
theorem ifB_ite {b : Bool} {A B : Prop} (h : ifB b A B) : if b = true then A else B := by
  cases b with
  | true => exact if_pos rfl ▸ h
  | false => exact (if_neg Bool.false_ne_true) ▸ h
def tCh (o o' : DCm) (ta tb tc : DTE) : DTT := fun s M Q => ta s M fun x M1 => tb s M1 fun y M2 => o x y M2 fun k M3 => ifB k (tc s M3 fun z M4 => o' y z M4 Q) (Q false M3)
def dCh (o o' : DCm) (ta tb tc : DTE) : DTE := fun s M Q => ta s M fun x M1 => tb s M1 fun y M2 => o x y M2 fun k M3 => ifB k (tc s M3 fun z M4 => o' y z M4 fun k M5 => Q (.bl k) M5) (Q (.bl false) M3)
def truD : D → DHp → (Bool → DHp → Prop) → Prop
  | .bl b, M, Q => Q b M
  | .int i, M, Q => Q (i != 0) M
  | .tup ds, M, Q => Q (!ds.isEmpty) M
  | .non, M, Q => Q false M
  | .str x, M, Q => x.length ≤ sizeLine ∧ Q ((x.length : Int) != 0) M
  | .ref p, M, Q => ∃ ds, (M p = some (.lst ds) ∨ M p = some (.frz ds)) ∧ Q (!ds.isEmpty) M
  | .ty _, _, _ => False
def tTru (t : DTE) : DTT := fun s M Q => t s M fun d M1 => truD d M1 Q
def tAnd (t u : DTT) : DTT := fun s M Q => t s M fun k M1 => ifB k (u s M1 Q) (Q false M1)
def tOr (t u : DTT) : DTT := fun s M Q => t s M fun k M1 => ifB k (Q true M1) (u s M1 Q)
def tNot (t : DTT) : DTT := fun s M Q => t s M fun k M1 => Q (!k) M1
/-- and, or, not of truth values -/
def dAnd (t u : DTE) : DTE := fun s M Q => t s M fun d M1 => ∃ k, d = .bl k ∧ ifB k (u s M1 Q) (Q (.bl false) M1)
def dOr (t u : DTE) : DTE := fun s M Q => t s M fun d M1 => ∃ k, d = .bl k ∧ ifB k (Q (.bl true) M1) (u s M1 Q)
def dNot (t : DTE) : DTE := fun s M Q => t s M fun d M1 => ∃ k, d = .bl k ∧ Q (.bl (!k)) M1
def dIte (c : DTT) (t u : DTE) : DTE := fun s M Q => c s M fun k M1 => ifB k (t s M1 Q) (u s M1 Q)
def aNil : DTA := fun _ M Q => Q [] M
def aCons (t : DTE) (u : DTA) : DTA := fun s M Q => t s M fun d M1 => u s M1 fun ds M2 => Q (d :: ds) M2
def dTup (t : DTA) : DTE := fun s M Q => t s M fun ds M1 => ds.length ≤ sizeLine ∧ Q (.tup ds) M1
def dLst (t : DTA) : DTE := fun s M Q => t s M fun ds M1 => ds.length ≤ sizeLine ∧ ∀ p, M1 p = none → Q (.ref p) (upM M1 p (.lst ds))
def dFn (r : DFn) (t : DTA) : DTE := fun s M Q => t s M fun ds M1 => r ds M1 Q
/-! ### lifting -/
section
variable {X : Cx} {B : Bs} {a b c e : Expr} {es : List Expr} {ta tb tc : DTE} {u : DTA} {pos : Pos}
theorem de_var (i : Nat) {x : Str} (hN : X.N[i]? = some x := by rfl) (hv : Vis X.env.scope x := by first | exact Or.inl rfl | exact Or.inr (Or.inl rfl) | exact Or.inr (Or.inr rfl)) (hd : (x == ("__debug__" : Str)) = false := by decide)
    (hcd : (x == ("__classdict__" : Str)) = false := by decide) : DE X B (.Name x pos) (dVar i) := ⟨peI (pe_var hN hv hd hcd) fun σ H Q ⟨s, M, P, hs, hm, h, w⟩ => by
  unfold dVar at h
  split at h
  · rename_i d e
    obtain ⟨v, h1, h2⟩ := hs.get e
    exact ⟨v, h1, w _ _ h _ _ h2 hm (.refl _ _)⟩
  · exact h.elim⟩
theorem de_c {d : D} {v : V} (h : PE X e (tC v)) (r : ∀ H, DR X.K H v d) : DE X B e (dC d) := ⟨peI h fun σ H Q ⟨s, M, P, hs, hm, h, w⟩ => w _ _ h _ _ (r H) hm (.refl _ _)⟩
theorem de_int {i j pos} : DE X B (.Constant (.int i) j pos) (dC (.int i)) := de_c pe_int fun _ => .int i
theorem de_bl {i j pos} : DE X B (.Constant (.bool i) j pos) (dC (.bl i)) := de_c pe_bl fun _ => .bl i
theorem de_str {i j pos} : DE X B (.Constant (.str i) j pos) (dC (.str i)) := de_c pe_str fun _ => .str i
theorem de_non {j pos} : DE X B (.Constant .none j pos) (dC .non) := de_c pe_non fun _ => .non
theorem de_op {op : Operator} {o : DOp} (ho : OpR X (binaryOp op) (liR X.K B o)) (ha : DE X B a ta) (hb : DE X B b tb) : DE X B (.BinOp a op b pos) (dOp o ta tb) :=
  ⟨peI (pe_op ho ha.run hb.run) fun σ H Q ⟨s, M, P, hs, hm, h, w⟩ => liE_then hs hm h fun x M1 v H1 p r m f s1 => liE_then s1 m p fun y M2 u H2 p2 r2 m2 f2 s2 => ⟨x, y, M2, P, r.ts f2.s, r2, m2, p2, w.go (f.trans f2)⟩⟩
def onB (P : Bool → DHp → Prop) : DK := fun d M => match d with
  | .bl k => P k M
  | _ => False
theorem liR_bl {K : PySem.W.Frag} {B : Bs} {o : DCm} {x y : V} {H : Hp} {a b : D} {M : DHp} {P : Bool → DHp → Prop} {Q : VK} (ra : DR K H x a) (rb : DR K H y b) (m : MB K B M H) (h : o a b M P) (w : ∀ k M' H', P k M' → MB K B M' H' → Fr M H M' H' → Q (.bl k) H') : liQ K B o x y H Q :=
  ⟨a, b, M, onB P, ra, rb, m, h, fun d M' p v H' r m' f => by
    cases d with
    | bl k => cases r; exact w k M' H' p m' f
    | _ => exact p.elim⟩
theorem de_cmp {op : CmpOp} {o : DCm} (ho : OpR X (compareOp op) (liQ X.K B o)) (ha : DE X B a ta) (hb : DE X B b tb) (hm : behindInMarks op b = false := by first | exact nomark _ | rfl | with_unfolding_all rfl) : DE X B (.Compare a [op] [b] pos) (dCmp o ta tb) :=
  ⟨peI (pe_cmpR ho ha.run hb.run hm) fun σ H Q ⟨s, M, P, hs, hm, h, w⟩ => liE_then hs hm h fun x M1 v H1 p r m f s1 => liE_then s1 m p fun y M2 u H2 p2 r2 m2 f2 s2 =>
    liR_bl (P := fun k M3 => P (.bl k) M3) (r.ts f2.s) r2 m2 p2 fun k M' H' q m3 f3 => w _ _ q _ _ (.bl k) m3 ((f.trans f2).trans f3)⟩
theorem dt_cmp {op : CmpOp} {o : DCm} (ho : OpR X (compareOp op) (liQ X.K B o)) (ha : DE X B a ta) (hb : DE X B b tb) (hm : behindInMarks op b = false := by first | exact nomark _ | rfl | with_unfolding_all rfl) : DT X B (.Compare a [op] [b] pos) (tCmp o ta tb) :=
  ⟨ptI (pt_cmpR ho ha.run hb.run hm) fun σ H Q ⟨s, M, P, hs, hm, h, w⟩ => liE_then hs hm h fun x M1 v H1 p r m f s1 => liE_then s1 m p fun y M2 u H2 p2 r2 m2 f2 s2 =>
    liR_bl (r.ts f2.s) r2 m2 p2 fun k M' H' q m3 f3 => ⟨k, rfl, w _ _ q _ m3 ((f.trans f2).trans f3)⟩⟩
theorem de_ch {op op' : CmpOp} {o o' : DCm} (ho : OpR X (compareOp op) (liQ X.K B o)) (ho' : OpR X (compareOp op') (liQ X.K B o')) (ha : DE X B a ta) (hb : DE X B b tb) (hc : DE X B c tc)
    (hm : lastMarks [op, op'] [b, c] = false := by with_unfolding_all rfl) : DE X B (.Compare a [op, op'] [b, c] pos) (dCh o o' ta tb tc) :=
  ⟨peI (pe_chain ho ho' ha.run hb.run hc.run hm) fun σ H Q ⟨s, M, P, hs, hm, h, w⟩ => liE_then hs hm h fun x M1 v H1 p r m f s1 => liE_then s1 m p fun y M2 u H2 p2 r2 m2 f2 s2 =>
    liR_bl (r.ts f2.s) r2 m2 p2 fun k M3 H3 q m3 f3 => ⟨k, rfl, ifB_ite (by
      cases k with
      | false => exact w _ _ q _ _ (.bl false) m3 ((f.trans f2).trans f3)
      | true => exact liE_then (s2.ts f3.s) m3 q fun z M4 u H4 p4 r4 m4 f4 s4 => liR_bl (P := fun k M5 => P (.bl k) M5) (r2.ts (f3.trans f4).s) r4 m4 p4 fun k M' H' q m5 f5 => w _ _ q _ _ (.bl k) m5 ((((f.trans f2).trans f3).trans f4).trans f5))⟩⟩
theorem dt_ch {op op' : CmpOp} {o o' : DCm} (ho : OpR X (compareOp op) (liQ X.K B o)) (ho' : OpR X (compareOp op') (liQ X.K B o')) (ha : DE X B a ta) (hb : DE X B b tb) (hc : DE X B c tc)
    (hm : lastMarks [op, op'] [b, c] = false := by with_unfolding_all rfl) : DT X B (.Compare a [op, op'] [b, c] pos) (tCh o o' ta tb tc) :=
  ⟨ptI (pt_chain ho ho' ha.run hb.run hc.run hm) fun σ H Q ⟨s, M, P, hs, hm, h, w⟩ => liE_then hs hm h fun x M1 v H1 p r m f s1 => liE_then s1 m p fun y M2 u H2 p2 r2 m2 f2 s2 =>
    liR_bl (r.ts f2.s) r2 m2 p2 fun k M3 H3 q m3 f3 => ⟨k, rfl, ifB_ite (by
      cases k with
      | false => exact ⟨false, rfl, w _ _ q _ m3 ((f.trans f2).trans f3)⟩
      | true => exact liE_then (s2.ts f3.s) m3 q fun z M4 u H4 p4 r4 m4 f4 s4 => liR_bl (r2.ts (f3.trans f4).s) r4 m4 p4 fun k M' H' q m5 f5 => ⟨k, rfl, w _ _ q _ m5 ((((f.trans f2).trans f3).trans f4).trans f5)⟩)⟩⟩
theorem tru_D {K : PySem.W.Frag} {B : Bs} {H : Hp} {M : DHp} {v : V} {d : D} {P : Bool → DHp → Prop} (r : DR K H v d) (m : MB K B M H) (h : truD d M P) : ∃ k, TruV K v H k ∧ P k M := by
  cases r with
  | non => exact ⟨_, rfl, h⟩
  | bl b => exact ⟨_, rfl, h⟩
  | int i => exact ⟨_, rfl, h⟩
  | str x => exact ⟨_, ⟨h.1, rfl⟩, h.2⟩
  | ty n => exact h.elim
  | tup t rs =>
    refine ⟨_, .inr (.inl ⟨_, t.sq, rfl⟩), ?_⟩
    have e : ∀ {vs : List V} {ds : List D}, DRs K H vs ds → (!vs.isEmpty) = (!ds.isEmpty) := fun r => by cases r <;> rfl
    rw [e rs]
    exact h
  | ref a =>
    obtain ⟨ds, h1, h2⟩ := h
    have e : ∀ {vs : List V} {ds : List D}, DRs K H vs ds → (!vs.isEmpty) = (!ds.isEmpty) := fun r => by cases r <;> rfl
    rcases h1 with h1 | h1
    · obtain ⟨vs, e1, e2⟩ := m.m _ _ h1
      exact ⟨_, .inl ⟨_, SqL.of e1, rfl⟩, by rw [e e2]; exact h2⟩
    · obtain ⟨o, vs, e1, e2⟩ := m.m _ _ h1
      exact ⟨_, .inl ⟨_, .inl (.inr ⟨o, e1⟩), rfl⟩, by rw [e e2]; exact h2⟩
theorem dt_tru (ha : DE X B a ta) (he : ∀ whole, isTrue a X.env whole = (do let v ← whole; standAt a.pos; holding [v] (truthy v)) := by intro _; rfl) : DT X B a (tTru ta) :=
  ⟨ptI (pt_truth ha.run he) fun σ H Q ⟨s, M, P, hs, hm, h, w⟩ => liE_then hs hm h fun x M1 v H1 p r m f s1 => let ⟨k, h1, h2⟩ := tru_D r m p; ⟨k, h1, w _ _ h2 _ m f⟩⟩
section
variable {t : DTT} {u' : DTT} {rest : List Expr}
theorem DW.dt (h : DW X B a t) : DT X B a t := ⟨h.run.pt⟩
theorem dw_and1 (h : DT X B a t) : DW X B (.BoolOp .And [a] pos) t := ⟨pw_and1 h.run⟩
theorem dw_or1 (h : DT X B a t) : DW X B (.BoolOp .Or [a] pos) t := ⟨pw_or1 h.run⟩
theorem dw_and (h : DT X B a t) (h' : DW X B (.BoolOp .And (b :: rest) pos) u') : DW X B (.BoolOp .And (a :: b :: rest) pos) (tAnd t u') :=
  ⟨pwI (pw_and h.run h'.run) fun σ H Q ⟨s, M, P, hs, hm, h, w⟩ => liT_then hs hm h fun k M1 H1 p m f s1 => ifB_ite (by
    cases k with
    | false => exact w _ _ p _ m f
    | true => exact liT_then s1 m p fun k M2 H2 p2 m2 f2 s2 => w _ _ p2 _ m2 (f.trans f2))⟩
theorem dw_or (h : DT X B a t) (h' : DW X B (.BoolOp .Or (b :: rest) pos) u') : DW X B (.BoolOp .Or (a :: b :: rest) pos) (tOr t u') :=
  ⟨pwI (pw_or h.run h'.run) fun σ H Q ⟨s, M, P, hs, hm, h, w⟩ => liT_then hs hm h fun k M1 H1 p m f s1 => ifB_ite (by
    cases k with
    | true => exact w _ _ p _ m f
    | false => exact liT_then s1 m p fun k M2 H2 p2 m2 f2 s2 => w _ _ p2 _ m2 (f.trans f2))⟩
theorem dt_not (h : DT X B a t) : DT X B (.UnaryOp .Not a pos) (tNot t) :=
  ⟨ptI (pt_not h.run) fun σ H Q ⟨s, M, P, hs, hm, h, w⟩ => liT_then hs hm h fun k M1 H1 p m f s1 => w _ _ p _ m f⟩
theorem de_one {op} (h : DE X B a ta) : DE X B (.BoolOp op [a] pos) ta := ⟨pe_one h.run⟩
theorem de_and (h : DE X B a ta) (h' : DE X B (.BoolOp .And (b :: rest) pos) tb) : DE X B (.BoolOp .And (a :: b :: rest) pos) (dAnd ta tb) :=
  ⟨peI (pe_and h.run h'.run) fun σ H Q ⟨s, M, P, hs, hm, h, w⟩ => liE_then hs hm h fun d M1 v H1 p r m f s1 => by
    obtain ⟨k, rfl, p⟩ := p
    cases r
    refine ⟨k, rfl, ifB_ite ?_⟩
    cases k with
    | false => exact w _ _ p _ _ (.bl false) m f
    | true => exact liE_then s1 m p fun d M2 v H2 p2 r2 m2 f2 s2 => w _ _ p2 _ _ r2 m2 (f.trans f2)⟩
theorem de_or (h : DE X B a ta) (h' : DE X B (.BoolOp .Or (b :: rest) pos) tb) : DE X B (.BoolOp .Or (a :: b :: rest) pos) (dOr ta tb) :=
  ⟨peI (pe_or h.run h'.run) fun σ H Q ⟨s, M, P, hs, hm, h, w⟩ => liE_then hs hm h fun d M1 v H1 p r m f s1 => by
    obtain ⟨k, rfl, p⟩ := p
    cases r
    refine ⟨k, rfl, ifB_ite ?_⟩
    cases k with
    | true => exact w _ _ p _ _ (.bl true) m f
    | false => exact liE_then s1 m p fun d M2 v H2 p2 r2 m2 f2 s2 => w _ _ p2 _ _ r2 m2 (f.trans f2)⟩
theorem de_not (h : DE X B a ta) : DE X B (.UnaryOp .Not a pos) (dNot ta) :=
  ⟨peI (pe_not h.run) fun σ H Q ⟨s, M, P, hs, hm, h, w⟩ => liE_then hs hm h fun d M1 v H1 p r m f s1 => by
    obtain ⟨k, rfl, p⟩ := p
    cases r
    exact ⟨k, rfl, w _ _ p _ _ (.bl _) m f⟩⟩
theorem de_ite (hc : DT X B c t) (h : DE X B a ta) (h' : DE X B b tb) : DE X B (.IfExp c a b pos) (dIte t ta tb) :=
  ⟨peI (pe_ifExp hc.run h.run h'.run) fun σ H Q ⟨s, M, P, hs, hm, h, w⟩ => liT_then hs hm h fun k M1 H1 p m f s1 => ifB_ite (by
    cases k with
    | true => exact liE_then s1 m p fun d M2 v H2 p2 r2 m2 f2 s2 => w _ _ p2 _ _ r2 m2 (f.trans f2)
    | false => exact liE_then s1 m p fun d M2 v H2 p2 r2 m2 f2 s2 => w _ _ p2 _ _ r2 m2 (f.trans f2))⟩
end
theorem da_nil : DA X B [] aNil := ⟨paI pa_nil fun σ H Q ⟨s, M, P, hs, hm, h, w⟩ => w _ _ h _ _ .nil hm (.refl _ _)⟩
theorem da_cons (h : DE X B a ta) (hr : DA X B es u) (hs : starEach (a :: es) X.env = (false, eval a X.env) :: starEach es X.env := by rfl) : DA X B (a :: es) (aCons ta u) :=
  ⟨paI (pa_cons h.run hr.run hs) fun σ H Q ⟨s, M, P, hs, hm, h, w⟩ => liE_then hs hm h fun d M1 v H1 p r m f s1 => liA_then s1 m p fun ds M2 vs H2 p2 r2 m2 f2 s2 => w _ _ p2 _ _ (.cons (r.ts f2.s) r2) m2 (f.trans f2)⟩
theorem de_tup {x1} (h : DA X B es u) : DE X B (.Tuple es x1 pos) (dTup u) :=
  ⟨peI (pe_tupN h.run) fun σ H Q ⟨s, M, P, hs, hm, h, w⟩ => liA_then hs hm h fun ds M1 vs H1 p r m f s1 => ⟨by rw [r.length]; exact p.1, fun q o hq ho =>
    let ⟨h1, h2, h3⟩ := m.tnew ho hq r; w _ _ p.2 _ _ h1 h2 (f.trans h3)⟩⟩
theorem de_lst (h : DA X B es u) : DE X B (.List es pos) (dLst u) :=
  ⟨peI (pe_lst h.run) fun σ H Q ⟨s, M, P, hs, hm, h, w⟩ => liA_then hs hm h fun ds M1 vs H1 p r m f s1 => ⟨by rw [r.length]; exact p.1, fun q hq =>
    let ⟨h2, h3⟩ := m.lnew hq r; w _ _ (p.2 q (m.free hq)) _ _ (.ref q) h2 (f.trans h3)⟩⟩
theorem de_fnB {x : Str} {id : String} {p : Pos} {r : DFn} (hc : CallR X (.builtin id) (liC X.K B r)) (hm : X.mg x = none) (ha : DA X B (e :: es) u) (hg : Gl X x := by rfl) (hv : bootBuiltins x = some (.builtin id) := by decide +kernel) (hn : x ≠ "__name__" := by decide) (hdb : (x == ("__debug__" : Str)) = false := by decide)
    (he : starEach (e :: es) X.env = (false, eval e X.env) :: starEach es X.env := by rfl) (hpl : (backTo pos (starEach es X.env)).any (·.1) = false := by rfl) : DE X B (.Call (.Name x p) (e :: es) [] pos) (dFn r u) :=
  ⟨peI (pe_callB hc hg hm hv ha.run hn hdb he hpl) fun σ H Q ⟨s, M, P, hs, hm, h, w⟩ => liA_then hs hm h fun ds M1 vs H1 p r m f s1 => ⟨ds, M1, P, r, m, p, w.go f⟩⟩
theorem de_fnT {x : Str} {id : String} {p : Pos} {r : DFn} (hc : CallR X (.type id) (liC X.K B r)) (hm : X.mg x = none) (ha : DA X B (e :: es) u) (hg : Gl X x := by rfl) (hv : bootBuiltins x = some (.type id) := by decide +kernel) (hn : x ≠ "__name__" := by decide) (hdb : (x == ("__debug__" : Str)) = false := by decide)
    (he : starEach (e :: es) X.env = (false, eval e X.env) :: starEach es X.env := by rfl) (hpl : (backTo pos (starEach es X.env)).any (·.1) = false := by rfl) : DE X B (.Call (.Name x p) (e :: es) [] pos) (dFn r u) :=
  ⟨peI (pe_callTy hc hg hm hv ha.run hn hdb he hpl) fun σ H Q ⟨s, M, P, hs, hm, h, w⟩ => liA_then hs hm h fun ds M1 vs H1 p r m f s1 => ⟨ds, M1, P, r, m, p, w.go f⟩⟩
end
end DL
set_option linter.all false
/-! operations of values -/
namespace DL
open PySem PySem.Spec PyProof.Rows L2
theorem bdec {α : Type} [BEq α] [LawfulBEq α] [DecidableEq α] (i j : α) : (i == j) = decide (i = j) := by
  by_cases h : i = j
  · subst h; simp
  · rw [decide_eq_false h]; exact beq_eq_false_iff_ne.mpr h
def MulOk (i j : Int) : Prop := CMul i j
def addD : DOp
  | .int i, .int j, M, Q => Q (.int (i + j)) M
  | .str x, .str y, M, Q => x.length + y.length ≤ sizeLine ∧ Q (.str (x ++ y)) M
  | .tup x, .tup y, M, Q => x.length + y.length ≤ sizeLine ∧ Q (.tup (x ++ y)) M
  | .ref a, .ref b, M, Q => ∃ x y, M a = some (.lst x) ∧ M b = some (.lst y) ∧ x.length + y.length ≤ sizeLine ∧ ∀ p, M p = none → Q (.ref p) (upM M p (.lst (x ++ y)))
  | _, _, _, _ => False
def subD : DOp
  | .int i, .int j, M, Q => Q (.int (i - j)) M
  | _, _, _, _ => False
def mulD : DOp
  | .int i, .int j, M, Q => MulOk i j ∧ Q (.int (i * j)) M
  | .ref a, .int k, M, Q => ∃ x, M a = some (.lst x) ∧ (-(2 ^ 63) ≤ k ∧ k < 2 ^ 63 ∧ x.length * k.toNat ≤ sizeLine) ∧ ∀ p, M p = none → Q (.ref p) (upM M p (.lst (List.replicate k.toNat x).flatten))
  | _, _, _, _ => False
def fdvD : DOp
  | .int i, .int j, M, Q => CDiv i j ∧ Q (.int (i / j)) M
  | _, _, _, _ => False
def modD : DOp
  | .int i, .int j, M, Q => 0 < j ∧ Q (.int (i % j)) M
  | _, _, _, _ => False
def powD : DOp
  | .int i, .int j, M, Q => CPow i j ∧ Q (.int (i ^ j.toNat)) M
  | _, _, _, _ => False
def icm (f : Int → Int → Bool) : DCm
  | .int i, .int j, M, Q => Q (f i j) M
  | _, _, _, _ => False
abbrev ltD : DCm := icm fun i j => decide (i < j)
abbrev leD : DCm := icm fun i j => decide (i ≤ j)
abbrev gtD : DCm := icm fun i j => decide (j < i)
abbrev geD : DCm := icm fun i j => decide (j ≤ i)
def isN : D → Bool
  | .non => true
  | _ => false
def isD : DCm := fun a b M Q => b = .non ∧ Q (isN a) M
def notD : DCm := fun a b M Q => b = .non ∧ Q (!isN a) M
/-! data -/
mutual
inductive Pd (M : DHp) : D → PyData → Prop
  | non : Pd M .non .none
  | bl (b : Bool) : Pd M (.bl b) (.bool b)
  | int (i : Int) : Pd M (.int i) (.int i)
  | str (x : Str) : Pd M (.str x) (.str x)
  | tup {ds : List D} {es : List PyData} : Pds M ds es → Pd M (.tup ds) (.tuple es)
  | lst {a : Addr} {ds : List D} {es : List PyData} : (M a = some (.lst ds) ∨ M a = some (.frz ds)) → Pds M ds es → Pd M (.ref a) (.list es)
inductive Pds (M : DHp) : List D → List PyData → Prop
  | nil : Pds M [] []
  | cons {d : D} {ds : List D} {e : PyData} {es : List PyData} : Pd M d e → Pds M ds es → Pds M (d :: ds) (e :: es)
end
theorem listOf {K : PySem.W.Frag} {B : Bs} {H : Hp} {M : DHp} {a : Addr} {ds : List D} (m : MB K B M H) (h : M a = some (.lst ds) ∨ M a = some (.frz ds)) : ∃ vs, SqL K H a vs ∧ DRs K H vs ds := by
  rcases h with h | h
  · obtain ⟨vs, e1, e2⟩ := m.m _ _ h
    exact ⟨vs, SqL.of e1, e2⟩
  · obtain ⟨o, vs, e1, e2⟩ := m.m _ _ h
    exact ⟨vs, .inl (.inr ⟨o, e1⟩), e2⟩
section
variable {K : PySem.W.Frag} {B : Bs} {H : Hp} {M : DHp}
mutual
theorem Pd.dp (m : MB K B M H) : ∀ {d : D} {x : PyData} {v : V}, Pd M d x → DR K H v d → Dp K H v x
  | _, _, _, .non, r => by cases r; exact .non
  | _, _, _, .bl b, r => by cases r; exact .bl b
  | _, _, _, .int i, r => by cases r; exact .int i
  | _, _, _, .str x, r => by cases r; exact .str x
  | _, _, _, .tup t, r => by
    cases r with
    | tup h rs => exact .tup h.sq (t.dp m rs)
  | _, _, _, .lst h t, r => by
    cases r
    obtain ⟨vs, h1, h2⟩ := listOf m h
    exact .lst h1 (t.dp m h2)
theorem Pds.dp (m : MB K B M H) : ∀ {d : List D} {x : List PyData} {v : List V}, Pds M d x → DRs K H v d → DpAll K H v x
  | _, _, _, .nil, r => by cases r; exact .nil
  | _, _, _, .cons h t, r => by
    cases r with
    | cons r1 r2 => exact .cons (h.dp m r1) (t.dp m r2)
end
end
/-- any two data, compared -/
def eqP (neg : Bool) : DCm := fun a b M Q => ∃ x y, Pd M a x ∧ Pd M b y ∧ SeqAt.shaped x = true ∧ SeqAt.shaped y = true ∧ Q (if neg then !PyData.eqv x y else PyData.eqv x y) M
def eqD : DCm
  | .int i, .int j, M, Q => Q (decide (i = j)) M
  | .str i, .str j, M, Q => Q (decide (i = j)) M
  | a, b, M, Q => eqP false a b M Q
def neD : DCm
  | .int i, .int j, M, Q => Q (!decide (i = j)) M
  | .str i, .str j, M, Q => Q (!decide (i = j)) M
  | a, b, M, Q => eqP true a b M Q
/-- x in a list or a tuple of data -/
def inP (neg : Bool) : DCm := fun a b M Q => ∃ x ds ys, Pd M a x ∧ (b = .tup ds ∨ ∃ p, b = .ref p ∧ (M p = some (.lst ds) ∨ M p = some (.frz ds))) ∧ Pds M ds ys ∧ SeqAt.shaped x = true ∧ SeqAt.shaped (.tuple ys) = true ∧ Q (if neg then !(ys.any fun z => PyData.eqv z x) else ys.any fun z => PyData.eqv z x) M
def inS (neg : Bool) : DCm
  | .str x, .str y, M, Q => Q (if neg then !(!(Builtin.Str.occurrences y x 0 y.length 1).isEmpty) else !(Builtin.Str.occurrences y x 0 y.length 1).isEmpty) M
  | a, b, M, Q => inP neg a b M Q
section
variable {X : Cx} {B : Bs}
theorem or_add : OpR X (binaryOp .Add) (liR X.K B addD) := fun pins s σ H x y v u Q I rx ry ⟨a, b, M, P, ra, rb, m, h, w⟩ => by
  cases ra with
  | int i =>
    cases rb with
    | int j => exact op_add pins s σ H _ _ v u Q I rx ry ⟨_, _, rfl, rfl, w _ _ h _ _ (.int _) m (.refl _ _)⟩
    | _ => exact h.elim
  | str i =>
    cases rb with
    | str j => exact op_add_str pins s σ H _ _ v u Q I rx ry ⟨_, _, rfl, rfl, h.1, w _ _ h.2 _ _ (.str _) m (.refl _ _)⟩
    | _ => exact h.elim
  | tup ta la =>
    cases rb with
    | tup tb lb =>
      refine op_catN pins s σ H _ _ v u Q I rx ry ⟨_, _, _, _, rfl, rfl, ta.sq, tb.sq, by rw [la.length, lb.length]; exact h.1, fun e => ?_, fun _ e => ?_, fun _ _ p o hp ho => ?_⟩
      · subst e
        cases la
        exact w _ _ h.2 _ _ (.tup tb lb) m (.refl _ _)
      · subst e
        cases lb
        have := h.2
        rw [List.append_nil] at this
        exact w _ _ this _ _ (.tup ta la) m (.refl _ _)
      · obtain ⟨h1, h2, h3⟩ := m.tnew ho hp (la.app lb)
        exact w _ _ h.2 _ _ h1 h2 h3
    | _ => exact h.elim
  | ref a =>
    cases rb with
    | ref b =>
      obtain ⟨p, q, h1, h2, h3, h4⟩ := h
      obtain ⟨vs, e1, e2⟩ := m.m _ _ h1
      obtain ⟨us, f1, f2⟩ := m.m _ _ h2
      refine op_cat pins s σ H _ _ v u Q I rx ry ⟨_, _, _, _, rfl, rfl, e1, f1, by rw [e2.length, f2.length]; exact h3, fun p hp => ?_⟩
      obtain ⟨g2, g3⟩ := m.lnew hp (e2.app f2)
      exact w _ _ (h4 p (m.free hp)) _ _ (.ref p) g2 g3
    | _ => exact h.elim
  | non => exact h.elim
  | bl _ => exact h.elim
  | ty _ => exact h.elim
/-- operations of two ints -/
theorem or_int {f : Value → Value → Sem Value} {o : DOp} {C : Int → Int → Prop} {g : Int → Int → Int} (hf : OpR X f (rI C fun i j => .int (g i j))) (ho : ∀ a b M Q, o a b M Q → ∃ i j, a = .int i ∧ b = .int j ∧ C i j ∧ Q (.int (g i j)) M) :
    OpR X f (liR X.K B o) := fun pins s σ H x y v u Q I rx ry ⟨a, b, M, P, ra, rb, m, h, w⟩ => by
  obtain ⟨i, j, rfl, rfl, c, q⟩ := ho _ _ _ _ h
  cases ra
  cases rb
  exact hf pins s σ H _ _ v u Q I rx ry ⟨_, _, rfl, rfl, c, w _ _ q _ _ (.int _) m (.refl _ _)⟩
theorem or_sub : OpR X (binaryOp .Sub) (liR X.K B subD) := fun pins s σ H x y v u Q I rx ry ⟨a, b, M, P, ra, rb, m, h, w⟩ => by
  cases ra with
  | int i =>
    cases rb with
    | int j => exact op_sub pins s σ H _ _ v u Q I rx ry ⟨_, _, rfl, rfl, w _ _ h _ _ (.int _) m (.refl _ _)⟩
    | _ => exact h.elim
  | _ => exact h.elim
theorem two_int {o : DOp} {C : Int → Int → Prop} {g : Int → Int → Int} {a b : D} {M : DHp} {Q : DK} (h : o a b M Q) (h1 : ∀ i j, o (.int i) (.int j) M Q → C i j ∧ Q (.int (g i j)) M) (h2 : ∀ i b, (∀ j, b ≠ .int j) → ¬ o (.int i) b M Q) (h3 : ∀ a b, (∀ j, a ≠ .int j) → ¬ o a b M Q) :
    ∃ i j, a = .int i ∧ b = .int j ∧ C i j ∧ Q (.int (g i j)) M := by
  by_cases ea : ∃ i, a = .int i
  · obtain ⟨i, rfl⟩ := ea
    by_cases eb : ∃ j, b = .int j
    · obtain ⟨j, rfl⟩ := eb
      exact ⟨i, j, rfl, rfl, h1 i j h⟩
    · exact absurd h (h2 i b fun j e => eb ⟨j, e⟩)
  · exact absurd h (h3 a b fun j e => ea ⟨j, e⟩)
theorem or_fdv : OpR X (binaryOp .FloorDiv) (liR X.K B fdvD) := or_int op_fdiv fun a b M Q h => two_int h (fun i j h => h) (fun i b n h => by cases b <;> first | exact n _ rfl | exact h) (fun a b n h => by cases a <;> first | exact n _ rfl | exact h)
theorem or_mod : OpR X (binaryOp .Mod) (liR X.K B modD) := or_int op_mod fun a b M Q h => two_int h (fun i j h => h) (fun i b n h => by cases b <;> first | exact n _ rfl | exact h) (fun a b n h => by cases a <;> first | exact n _ rfl | exact h)
theorem or_pow : OpR X (binaryOp .Pow) (liR X.K B powD) := or_int op_pow fun a b M Q h => two_int h (fun i j h => h) (fun i b n h => by cases b <;> first | exact n _ rfl | exact h) (fun a b n h => by cases a <;> first | exact n _ rfl | exact h)
theorem or_mul : OpR X (binaryOp .Mult) (liR X.K B mulD) := fun pins s σ H x y v u Q I rx ry ⟨a, b, M, P, ra, rb, m, h, w⟩ => by
  cases ra with
  | int i =>
    cases rb with
    | int j => exact op_mul pins s σ H _ _ v u Q I rx ry ⟨_, _, rfl, rfl, h.1, w _ _ h.2 _ _ (.int _) m (.refl _ _)⟩
    | _ => exact h.elim
  | ref a =>
    cases rb with
    | int k =>
      obtain ⟨p, h1, ⟨h2, h3, h4⟩, h5⟩ := h
      obtain ⟨vs, e1, e2⟩ := m.m _ _ h1
      refine op_rep pins s σ H _ _ v u Q I rx ry ⟨_, _, _, rfl, rfl, e1, h2, h3, by rw [e2.length]; exact h4, fun p hp => ?_⟩
      obtain ⟨g2, g3⟩ := m.lnew hp (e2.rep k.toNat)
      exact w _ _ (h5 p (m.free hp)) _ _ (.ref p) g2 g3
    | _ => exact h.elim
  | _ => exact h.elim
theorem or_icm {op : CmpOp} {f : Int → Int → Bool} (hf : OpR X (compareOp op) (rI0 fun i j => .bl (f i j))) : OpR X (compareOp op) (liQ X.K B (icm f)) := fun pins s σ H x y v u Q I rx ry ⟨a, b, M, P, ra, rb, m, h, w⟩ => by
  cases ra with
  | int i =>
    cases rb with
    | int j => exact hf pins s σ H _ _ v u Q I rx ry ⟨_, _, rfl, rfl, w _ _ h _ _ (.bl _) m (.refl _ _)⟩
    | _ => exact h.elim
  | _ => exact h.elim
theorem or_lt : OpR X (compareOp .Lt) (liQ X.K B ltD) := or_icm op_lt
theorem or_le : OpR X (compareOp .LtE) (liQ X.K B leD) := or_icm op_le
theorem or_gt : OpR X (compareOp .Gt) (liQ X.K B gtD) := or_icm op_gt
theorem or_ge : OpR X (compareOp .GtE) (liQ X.K B geD) := or_icm op_ge
theorem non_V {K : PySem.W.Frag} {H : Hp} {v : V} {d : D} (r : DR K H v d) : decide (v = .non) = isN d := by
  cases r <;> simp [isN]
theorem or_is : OpR X (compareOp .Is) (liQ X.K B isD) := fun pins s σ H x y v u Q I rx ry ⟨a, b, M, P, ra, rb, m, ⟨e, h⟩, w⟩ => by
  subst e
  cases rb
  refine op_isN pins s σ H _ _ v u Q I rx ry ⟨rfl, ?_⟩
  rw [non_V ra]
  exact w _ _ h _ _ (.bl _) m (.refl _ _)
theorem or_isn : OpR X (compareOp .IsNot) (liQ X.K B notD) := fun pins s σ H x y v u Q I rx ry ⟨a, b, M, P, ra, rb, m, ⟨e, h⟩, w⟩ => by
  subst e
  cases rb
  refine op_notN pins s σ H _ _ v u Q I rx ry ⟨rfl, ?_⟩
  rw [non_V ra]
  exact w _ _ h _ _ (.bl _) m (.refl _ _)
theorem or_eqP (hu : X.A.units + 64 < cLine) {pins : List (Addr × Obj)} {s : Shared} {σ : VS} {H : Hp} {x y : V} {v u : Value} {Q : VK} (I : Inv X pins σ H s) (rx : RelV x v) (ry : RelV y u) {a b : D} {M : DHp} {P : Bool → DHp → Prop} (ra : DR X.K H x a) (rb : DR X.K H y b) (m : MB X.K B M H)
    (h : eqP false a b M P) (w : ∀ k M', P k M' → ∀ v H', DR X.K H' v (.bl k) → MB X.K B M' H' → Fr M H M' H' → Q v H') : wpAny (model X.prog X.w) X.A (compareOp .Eq v u) (EP X pins σ Q) X.xe s := by
  obtain ⟨d, e, h1, h2, s1, s2, q⟩ := h
  exact op_eqD hu pins s σ H x y v u Q I rx ry ⟨d, e, h1.dp m ra, h2.dp m rb, s1, s2, w _ _ q _ _ (.bl _) m (.refl _ _)⟩
theorem or_neP (hu : X.A.units + 64 < cLine) {pins : List (Addr × Obj)} {s : Shared} {σ : VS} {H : Hp} {x y : V} {v u : Value} {Q : VK} (I : Inv X pins σ H s) (rx : RelV x v) (ry : RelV y u) {a b : D} {M : DHp} {P : Bool → DHp → Prop} (ra : DR X.K H x a) (rb : DR X.K H y b) (m : MB X.K B M H)
    (h : eqP true a b M P) (w : ∀ k M', P k M' → ∀ v H', DR X.K H' v (.bl k) → MB X.K B M' H' → Fr M H M' H' → Q v H') : wpAny (model X.prog X.w) X.A (compareOp .NotEq v u) (EP X pins σ Q) X.xe s := by
  obtain ⟨d, e, h1, h2, s1, s2, q⟩ := h
  exact op_neD hu pins s σ H x y v u Q I rx ry ⟨d, e, h1.dp m ra, h2.dp m rb, s1, s2, w _ _ q _ _ (.bl _) m (.refl _ _)⟩
theorem or_eq (hu : X.A.units + 64 < cLine) : OpR X (compareOp .Eq) (liQ X.K B eqD) := fun pins s σ H x y v u Q I rx ry ⟨a, b, M, P, ra, rb, m, h, w⟩ => by
  have gen : eqP false a b M (fun k M1 => P (.bl k) M1) → wpAny (model X.prog X.w) X.A (compareOp .Eq v u) (EP X pins σ Q) X.xe s := fun h => or_eqP hu I rx ry ra rb m h fun k M' p v H' r m' f => w _ _ p v H' r m' f
  cases a with
  | int i =>
    cases b with
    | int j =>
      cases ra
      cases rb
      refine op_eq pins s σ H _ _ v u Q I rx ry ⟨rfl, ?_⟩
      rw [dec_int, bdec]
      exact w _ _ h _ _ (.bl _) m (.refl _ _)
    | _ => exact gen h
  | str i =>
    cases b with
    | str j =>
      cases ra
      cases rb
      refine op_eq pins s σ H _ _ v u Q I rx ry ⟨rfl, ?_⟩
      rw [dec_str, bdec]
      exact w _ _ h _ _ (.bl _) m (.refl _ _)
    | _ => exact gen h
  | _ => exact gen h
theorem or_ne (hu : X.A.units + 64 < cLine) : OpR X (compareOp .NotEq) (liQ X.K B neD) := fun pins s σ H x y v u Q I rx ry ⟨a, b, M, P, ra, rb, m, h, w⟩ => by
  have gen : eqP true a b M (fun k M1 => P (.bl k) M1) → wpAny (model X.prog X.w) X.A (compareOp .NotEq v u) (EP X pins σ Q) X.xe s := fun h => or_neP hu I rx ry ra rb m h fun k M' p v H' r m' f => w _ _ p v H' r m' f
  cases a with
  | int i =>
    cases b with
    | int j =>
      cases ra
      cases rb
      refine op_ne pins s σ H _ _ v u Q I rx ry ⟨rfl, ?_⟩
      rw [dec_int, bdec]
      exact w _ _ h _ _ (.bl _) m (.refl _ _)
    | _ => exact gen h
  | str i =>
    cases b with
    | str j =>
      cases ra
      cases rb
      refine op_ne pins s σ H _ _ v u Q I rx ry ⟨rfl, ?_⟩
      rw [dec_str, bdec]
      exact w _ _ h _ _ (.bl _) m (.refl _ _)
    | _ => exact gen h
  | _ => exact gen h
end
end DL
set_option linter.all false
/-! places, slices, built-ins -/
namespace DL
open PySem PySem.Spec PyProof.Rows L2
/-- a list, by its place -/
def LstAt (M : DHp) (p : Addr) (ds : List D) : Prop := M p = some (.lst ds) ∨ M p = some (.frz ds)
/-- a list or a tuple -/
def SqD (M : DHp) (d : D) (ds : List D) : Prop := d = .tup ds ∨ ∃ p, d = .ref p ∧ LstAt M p ds
theorem SqD.tup {M : DHp} {ds : List D} : SqD M (.tup ds) ds := .inl rfl
theorem SqD.ref {M : DHp} {p : Addr} {ds : List D} (h : M p = some (.lst ds)) : SqD M (.ref p) ds := .inr ⟨p, rfl, .inl h⟩
theorem SqD.frz {M : DHp} {p : Addr} {ds : List D} (h : M p = some (.frz ds)) : SqD M (.ref p) ds := .inr ⟨p, rfl, .inr h⟩
theorem SqD.les {M M' : DHp} {d : D} {ds : List D} (h : SqD M d ds) (l : Les M M') : SqD M' d ds := h.elim .inl fun ⟨p, e, q⟩ => .inr ⟨p, e, q.elim (fun q => .inl (l _ _ q)) fun q => .inr (l _ _ q)⟩
def ixD : DOp := fun d e M Q => (∃ ds i x, SqD M d ds ∧ e = .int i ∧ atI ds i = some x ∧ Q x M) ∨ ∃ z i c, d = .str z ∧ e = .int i ∧ z.length ≤ sizeLine ∧ atI z.cps.toList i = some c ∧ Q (.str ⟨#[c]⟩) M
def cutD (xs : List D) (lo hi : Option Int) : List D := (xs.drop (HT.sIx xs.length 0 lo)).take (HT.sIx xs.length xs.length hi - HT.sIx xs.length 0 lo)
abbrev DSl := D → Option Int → Option Int → DHp → DK → Prop
def slD : DSl
  | .tup ds, lo, hi, M, Q => Q (.tup (cutD ds lo hi)) M
  | .ref p, lo, hi, M, Q => ∃ ds, LstAt M p ds ∧ ∀ q, M q = none → Q (.ref q) (upM M q (.lst (cutD ds lo hi)))
  | _, _, _, _, _ => False
abbrev DTO := DSt → DHp → (Option Int → DHp → Prop) → Prop
def oNone : DTO := fun _ M Q => Q none M
def oPart (t : DTE) : DTO := fun s M Q => t s M fun d M1 => ∃ i, d = .int i ∧ Q (some i) M1
def dSlc (o : DSl) (t : DTE) (l h : DTO) : DTE := fun s M Q => t s M fun d M1 => l s M1 fun a M2 => h s M2 fun b M3 => o d a b M3 Q
def dRev (t : DTE) : DTE := fun s M Q => t s M fun d M1 => ∃ p ds, d = .ref p ∧ LstAt M1 p ds ∧ ∀ q, M1 q = none → Q (.ref q) (upM M1 q (.lst ds.reverse))
def Wo (K : PySem.W.Frag) (B : Bs) (M : DHp) (H : Hp) (P : Option Int → DHp → Prop) (Q : Option Int → Hp → Prop) : Prop := ∀ d M', P d M' → ∀ H', MB K B M' H' → Fr M H M' H' → Q d H'
def liO (K : PySem.W.Frag) (B : Bs) (t : DTO) : TO := fun σ H Q => ∃ s M P, SR K H σ s ∧ MB K B M H ∧ t s M P ∧ Wo K B M H P Q
structure DPO (X : Cx) (B : Bs) (e : Option Expr) (t : DTO) : Prop where
  run : PO X e (liO X.K B t)
/-! functions of one value -/
def one (f : D → DHp → DK → Prop) : DFn := fun ds M Q => match ds with
  | [d] => f d M Q
  | _ => False
def two (f : D → D → DHp → DK → Prop) : DFn := fun ds M Q => match ds with
  | [d, e] => f d e M Q
  | _ => False
def lenD : DFn := one fun d M Q => (∃ ds, SqD M d ds ∧ Q (.int (ds.length : Nat)) M) ∨ ∃ z, d = .str z ∧ z.length ≤ sizeLine ∧ Q (.int (z.length : Nat)) M
def tupD : DFn := one fun d M Q => ∃ ds, SqD M d ds ∧ Q (.tup ds) M
def lstD : DFn := one fun d M Q => ∃ ds, SqD M d ds ∧ ∀ q, M q = none → Q (.ref q) (upM M q (.lst ds))
def intD : DFn := one fun d M Q => match d with
  | .int i => Q (.int i) M
  | .bl k => Q (.int (if k then 1 else 0)) M
  | _ => False
def blnD : DFn := one fun d M Q => match d with
  | .int i => Q (.bl (i != 0)) M
  | .bl k => Q (.bl k) M
  | _ => False
def absD : DFn := one fun d M Q => match d with
  | .int i => Q (.int (if i < 0 then -i else i)) M
  | _ => False
def sumD : DFn := one fun d M Q => ∃ (p : Addr) (ns : List Int), d = .ref p ∧ LstAt M p (ns.map D.int) ∧ Q (.int ns.sum) M
def allD : DFn := one fun d M Q => ∃ (p : Addr) (ns : List Bool), d = .ref p ∧ LstAt M p (ns.map D.bl) ∧ Q (.bl (ns.all id)) M
def anyD : DFn := one fun d M Q => ∃ (p : Addr) (ns : List Bool), d = .ref p ∧ LstAt M p (ns.map D.bl) ∧ Q (.bl (ns.any id)) M
def mx2D : DFn := two fun d e M Q => match d, e with
  | .int i, .int j => Q (.int (if j > i then j else i)) M
  | _, _ => False
def mn2D : DFn := two fun d e M Q => match d, e with
  | .int i, .int j => Q (.int (if j < i then j else i)) M
  | _, _ => False
def srtD : DFn := one fun d M Q => ∃ (p : Addr) (ns : List Int), d = .ref p ∧ LstAt M p (ns.map D.int) ∧ ∀ (ns' : List Int) (q : Addr), ns'.Perm ns → ns'.Pairwise (· ≤ ·) → M q = none → Q (.ref q) (upM M q (.lst (ns'.map D.int)))
/-- of data -/
def rprD : DFn := one fun d M Q => ∃ x, Pd M d x ∧ x.showable = true ∧ x.hasDict = false ∧ x.depth ≤ 64 ∧ x.shown.length + 64 ≤ sizeLine ∧ Q (.str x.shown) M
/-! kinds -/
inductive Kd where
  | non | bl | int | str | tup | lst | ins (C : Addr)
def kindO : Option DO → Option Kd
  | some (.lst _) => some .lst
  | some (.frz _) => some .lst
  | some (.ins C _) => some (.ins C)
  | _ => none
def kindD (M : DHp) : D → Option Kd
  | .non => some .non
  | .bl _ => some .bl
  | .int _ => some .int
  | .str _ => some .str
  | .tup _ => some .tup
  | .ref p => kindO (M p)
  | .ty _ => none
section
variable {X : Cx} {B : Bs} {e : Expr} {te : DTE} {lo hi : Option Expr} {tl th : DTO} {pos p2 : Pos}
theorem LstAt.sq {K : PySem.W.Frag} {B : Bs} {H : Hp} {M : DHp} {a : Addr} {ds : List D} (h : LstAt M a ds) (m : MB K B M H) : ∃ vs, SqL K H a vs ∧ DRs K H vs ds := listOf m h
theorem atI_D {K : PySem.W.Frag} {H : Hp} {vs : List V} {ds : List D} {i : Int} {d : D} (r : DRs K H vs ds) (h : atI ds i = some d) : ∃ v, atI vs i = some v ∧ DR K H v d := by
  unfold atI at h ⊢
  rw [r.length]
  cases q : ixN ds.length i with
  | none => rw [q] at h; cases h
  | some j =>
    rw [q] at h
    exact r.getD h
theorem SqD.v {K : PySem.W.Frag} {B : Bs} {H : Hp} {M : DHp} {v : V} {d : D} {ds : List D} (h : SqD M d ds) (r : DR K H v d) (m : MB K B M H) : ∃ a vs, v = .ref a ∧ (SqL K H a vs ∨ NdT H a vs) ∧ DRs K H vs ds := by
  rcases h with rfl | ⟨p, rfl, h⟩
  · cases r with
    | tup t r => exact ⟨_, _, rfl, .inr t, r⟩
  · cases r
    obtain ⟨vs, t, r⟩ := h.sq m
    exact ⟨_, _, rfl, .inl t, r⟩
theorem ir_D : IxR X (liR X.K B ixD) := fun value slice pins s σ H x y v u Q I rx ry ⟨a, b, M, P, ra, rb, m, h, w⟩ hs => by
  rcases h with ⟨ds, i, d, h0, rfl, h1, h2⟩ | ⟨z, i, c, rfl, rfl, h0, h1, h2⟩
  · cases rb
    obtain ⟨a, vs, rfl, t, r⟩ := h0.v ra m
    obtain ⟨v', e1, e2⟩ := atI_D r h1
    rcases t with t | t
    · exact ix_list value slice pins s σ H _ _ v u Q I rx ry ⟨_, _, _, _, rfl, rfl, t, e1, w _ _ h2 _ _ e2 m (.refl _ _)⟩ hs
    · exact ix_tup value slice pins s σ H _ _ v u Q I rx ry ⟨_, _, _, _, rfl, rfl, t.sq, e1, w _ _ h2 _ _ e2 m (.refl _ _)⟩ hs
  · cases ra
    cases rb
    exact ix_str value slice pins s σ H _ _ v u Q I rx ry ⟨_, _, _, rfl, rfl, h0, h1, w _ _ h2 _ _ (.str _) m (.refl _ _)⟩ hs
theorem de_ix {a b : Expr} {ta tb : DTE} (ha : DE X B a ta) (hb : DE X B b tb) (hs : PlainIx b := by exact fun _ _ => rfl) : DE X B (.Subscript a b pos) (dOp ixD ta tb) :=
  ⟨peI (pe_ix ir_D ha.run hb.run hs) fun σ H Q ⟨s, M, P, hs, hm, h, w⟩ => liE_then hs hm h fun x M1 v H1 p r m f s1 => liE_then s1 m p fun y M2 u H2 p2 r2 m2 f2 s2 => ⟨x, y, M2, P, r.ts f2.s, r2, m2, p2, w.go (f.trans f2)⟩⟩
theorem dpo_none : DPO X B none oNone := ⟨⟨fun pins s σ H Q I ⟨s0, M, P, hs, hm, h, w⟩ => po_none.run pins s σ H Q I (w _ _ h _ hm (.refl _ _))⟩⟩
theorem dpo_some (h : DE X B e te) : DPO X B (some e) (oPart te) := ⟨⟨fun pins s σ H Q I ⟨s0, M, P, hs, hm, h', w⟩ => (po_some h.run).run pins s σ H Q I (liE_then hs hm h' fun d M1 v H1 ⟨i, e, p⟩ r m f s1 => by
  subst e
  cases r
  exact ⟨i, rfl, w _ _ p _ m f⟩)⟩⟩
def liS (K : PySem.W.Frag) (B : Bs) (o : DSl) : V → Option Int → Option Int → Hp → VK → Prop := fun x lo hi H Q => ∃ a M P, DR K H x a ∧ MB K B M H ∧ o a lo hi M P ∧ Wv K B M H P Q
theorem cut_D {K : PySem.W.Frag} {H : Hp} {vs : List V} {ds : List D} (lo hi : Option Int) (r : DRs K H vs ds) : DRs K H (cutV vs lo hi) (cutD ds lo hi) := by
  unfold cutV cutD
  rw [r.length]
  exact (r.drop _).take _
theorem cutD_whole {ds : List D} {lo hi : Option Int} (h : HT.sIx ds.length 0 lo = 0 ∧ HT.sIx ds.length ds.length hi = ds.length) : cutD ds lo hi = ds := by
  unfold cutD
  rw [h.1, h.2]
  simp
theorem sr_D : SlR X (liS X.K B slD) := fun pins s σ H x v vl vu lo hi sl Q I rx hs pl pu ⟨a, M, P, ra, m, h, w⟩ => by
  cases ra with
  | tup t r =>
    refine sl_cutN pins s σ H _ v vl vu lo hi sl Q I rx hs pl pu ⟨_, _, rfl, t.sq, fun e => ?_, fun _ p o hp ho => ?_⟩
    · rw [r.length] at e
      have h' : P (.tup (cutD _ lo hi)) M := h
      rw [cutD_whole e] at h'
      exact w _ _ h' _ _ (.tup t r) m (.refl _ _)
    · obtain ⟨h1, h2, h3⟩ := m.tnew ho hp (cut_D lo hi r)
      exact w _ _ h _ _ h1 h2 h3
  | ref a =>
    obtain ⟨ds, h0, h1⟩ := h
    obtain ⟨vs, t, r⟩ := h0.sq m
    refine sl_list pins s σ H _ v vl vu lo hi sl Q I rx hs pl pu ⟨_, _, rfl, t, fun p hp => ?_⟩
    obtain ⟨g2, g3⟩ := m.lnew hp (cut_D lo hi r)
    exact w _ _ (h1 p (m.free hp)) _ _ (.ref p) g2 g3
  | _ => exact h.elim
theorem de_sl (he : DE X B e te) (hl : DPO X B lo tl) (hh : DPO X B hi th) : DE X B (.Subscript e (.Slice lo hi none p2) pos) (dSlc slD te tl th) :=
  ⟨peI (pe_slice sr_D he.run hl.run hh.run) fun σ H Q ⟨s, M, P, hs, hm, h, w⟩ => liE_then hs hm h fun x M1 v H1 p r m f s1 => ⟨s, M1, _, s1, m, p, fun a M2 p2 H2 m2 f2 => ⟨s, M2, _, s1.ts f2.s, m2, p2, fun b M3 p3 H3 m3 f3 =>
    ⟨x, M3, P, r.ts (f2.trans f3).s, m3, p3, w.go ((f.trans f2).trans f3)⟩⟩⟩⟩
theorem de_rev {k : Nat} {p1 p2 p3 : Pos} (he : DE X B e te) : DE X B (.Subscript e (.Slice none none (some (.UnaryOp .USub (.Constant (.int 1) k p1) p2)) p3) pos) (dRev te) :=
  ⟨peI (pe_revL he.run) fun σ H Q ⟨s, M, P, hs, hm, h, w⟩ => liE_then hs hm h fun x M1 v H1 ⟨p, ds, e, h0, q⟩ r m f s1 => by
    subst e
    cases r
    obtain ⟨vs, t, r⟩ := h0.sq m
    refine ⟨_, _, rfl, t, fun q' hq => ?_⟩
    obtain ⟨g2, g3⟩ := m.lnew hq r.rev
    exact w _ _ (q q' (m.free hq)) _ _ (.ref q') g2 (f.trans g3)⟩
/-- -i -/
def negD : D → DHp → DK → Prop
  | .int i, M, Q => Q (.int (-i)) M
  | _, _, _ => False
def dNeg (t : DTE) : DTE := fun s M Q => t s M fun d M1 => negD d M1 Q
theorem de_neg (he : DE X B e te) : DE X B (.UnaryOp .USub e pos) (dNeg te) :=
  ⟨peI (pe_un un_neg he.run) fun σ H Q ⟨s, M, P, hs, hm, h, w⟩ => liE_then hs hm h fun x M1 v H1 p r m f s1 => by
    cases r with
    | int i => exact ⟨i, rfl, w _ _ p _ _ (.int _) m f⟩
    | _ => exact p.elim⟩
/-! built-ins -/
theorem vs1 {K : PySem.W.Frag} {H : Hp} {vs : List V} {ds : List D} {f : D → DHp → DK → Prop} {M : DHp} {P : DK} (r : DRs K H vs ds) (h : one f ds M P) : ∃ v d, vs = [v] ∧ ds = [d] ∧ DR K H v d ∧ f d M P := by
  cases r with
  | nil => exact h.elim
  | cons r1 r2 =>
    cases r2 with
    | nil => exact ⟨_, _, rfl, rfl, r1, h⟩
    | cons _ _ => exact h.elim
theorem vs2 {K : PySem.W.Frag} {H : Hp} {vs : List V} {ds : List D} {f : D → D → DHp → DK → Prop} {M : DHp} {P : DK} (r : DRs K H vs ds) (h : two f ds M P) : ∃ v u d e, vs = [v, u] ∧ ds = [d, e] ∧ DR K H v d ∧ DR K H u e ∧ f d e M P := by
  cases r with
  | nil => exact h.elim
  | cons r1 r2 =>
    cases r2 with
    | nil => exact h.elim
    | cons r2 r3 =>
      cases r3 with
      | nil => exact ⟨_, _, _, _, rfl, rfl, r1, r2, h⟩
      | cons _ _ => exact h.elim
theorem cr_len : CallR X (.builtin "len") (liC X.K B lenD) := fun pins s σ H xs us Q I r ⟨ds, M, P, rs, m, h, w⟩ => by
  obtain ⟨v, d, rfl, rfl, r1, h⟩ := vs1 rs h
  rcases h with ⟨ds, h0, h1⟩ | ⟨z, rfl, h0, h1⟩
  · obtain ⟨a, vs, rfl, t, rl⟩ := h0.v r1 m
    refine call_len_seq pins s σ H _ us Q I r ⟨_, _, rfl, t.imp_right NdT.sq, ?_⟩
    rw [rl.length]
    exact w _ _ h1 _ _ (.int _) m (.refl _ _)
  · cases r1
    exact call_len_str pins s σ H _ us Q I r ⟨_, rfl, h0, w _ _ h1 _ _ (.int _) m (.refl _ _)⟩
theorem cr_tup : CallR X (.type "tuple") (liC X.K B tupD) := fun pins s σ H xs us Q I r ⟨ds, M, P, rs, m, h, w⟩ => by
  obtain ⟨v, d, rfl, rfl, r1, ds, h0, h1⟩ := vs1 rs h
  obtain ⟨a, vs, rfl, t, rl⟩ := h0.v r1 m
  rcases t with t | t
  · refine cr_tupN pins s σ H _ us Q I r ⟨_, _, rfl, .inl ⟨t, fun p o hp ho => ?_⟩⟩
    obtain ⟨g1, g2, g3⟩ := m.tnew ho hp rl
    exact w _ _ h1 _ _ g1 g2 g3
  · exact cr_tupN pins s σ H _ us Q I r ⟨_, _, rfl, .inr ⟨t.sq, w _ _ h1 _ _ (.tup t rl) m (.refl _ _)⟩⟩
theorem cr_lst : CallR X (.type "list") (liC X.K B lstD) := fun pins s σ H xs us Q I r ⟨ds, M, P, rs, m, h, w⟩ => by
  obtain ⟨v, d, rfl, rfl, r1, ds, h0, h1⟩ := vs1 rs h
  obtain ⟨a, vs, rfl, t, rl⟩ := h0.v r1 m
  refine call_list_of pins s σ H _ us Q I r ⟨_, _, rfl, t.imp_right NdT.sq, fun p hp => ?_⟩
  obtain ⟨g2, g3⟩ := m.lnew hp rl
  exact w _ _ (h1 p (m.free hp)) _ _ (.ref p) g2 g3
theorem cr_int : CallR X (.type "int") (liC X.K B intD) := fun pins s σ H xs us Q I r ⟨ds, M, P, rs, m, h, w⟩ => by
  obtain ⟨v, d, rfl, rfl, r1, h⟩ := vs1 rs h
  cases r1 with
  | int i => exact call_int1 pins s σ H _ us Q I r (.inl ⟨_, rfl, w _ _ h _ _ (.int _) m (.refl _ _)⟩)
  | bl i => exact call_int1 pins s σ H _ us Q I r (.inr ⟨_, rfl, w _ _ h _ _ (.int _) m (.refl _ _)⟩)
  | _ => exact h.elim
theorem cr_bln : CallR X (.type "bool") (liC X.K B blnD) := fun pins s σ H xs us Q I r ⟨ds, M, P, rs, m, h, w⟩ => by
  obtain ⟨v, d, rfl, rfl, r1, h⟩ := vs1 rs h
  cases r1 with
  | int i => exact call_bool1 pins s σ H _ us Q I r (.inl ⟨_, rfl, w _ _ h _ _ (.bl _) m (.refl _ _)⟩)
  | bl i => exact call_bool1 pins s σ H _ us Q I r (.inr ⟨_, rfl, w _ _ h _ _ (.bl _) m (.refl _ _)⟩)
  | _ => exact h.elim
theorem cr_abs : CallR X (.builtin "abs") (liC X.K B absD) := fun pins s σ H xs us Q I r ⟨ds, M, P, rs, m, h, w⟩ => by
  obtain ⟨v, d, rfl, rfl, r1, h⟩ := vs1 rs h
  cases r1 with
  | int i => exact call_abs pins s σ H _ us Q I r ⟨_, rfl, w _ _ h _ _ (.int _) m (.refl _ _)⟩
  | _ => exact h.elim
theorem cr_sumD (hc : X.calm = true) : CallR X (.builtin "sum") (liC X.K B sumD) := fun pins s σ H xs us Q I r ⟨ds, M, P, rs, m, h, w⟩ => by
  obtain ⟨v, d, rfl, rfl, r1, p, ns, rfl, h0, h⟩ := vs1 rs h
  cases r1
  obtain ⟨vs, t, rs⟩ := h0.sq m
  rw [rs.ints] at t
  exact L2.cr_sum hc pins s σ H _ us Q I r ⟨_, _, rfl, t, w _ _ h _ _ (.int _) m (.refl _ _)⟩
theorem cr_allD (hc : X.calm = true) : CallR X (.builtin "all") (liC X.K B allD) := fun pins s σ H xs us Q I r ⟨ds, M, P, rs, m, h, w⟩ => by
  obtain ⟨v, d, rfl, rfl, r1, p, ns, rfl, h0, h⟩ := vs1 rs h
  cases r1
  obtain ⟨vs, t, rs⟩ := h0.sq m
  rw [rs.bls] at t
  exact L2.cr_all hc pins s σ H _ us Q I r ⟨_, _, rfl, t, w _ _ h _ _ (.bl _) m (.refl _ _)⟩
theorem cr_anyD (hc : X.calm = true) : CallR X (.builtin "any") (liC X.K B anyD) := fun pins s σ H xs us Q I r ⟨ds, M, P, rs, m, h, w⟩ => by
  obtain ⟨v, d, rfl, rfl, r1, p, ns, rfl, h0, h⟩ := vs1 rs h
  cases r1
  obtain ⟨vs, t, rs⟩ := h0.sq m
  rw [rs.bls] at t
  exact L2.cr_any hc pins s σ H _ us Q I r ⟨_, _, rfl, t, w _ _ h _ _ (.bl _) m (.refl _ _)⟩
theorem cr_mx2 (hc : X.calm = true) : CallR X (.builtin "max") (liC X.K B mx2D) := fun pins s σ H xs us Q I r ⟨ds, M, P, rs, m, h, w⟩ => by
  obtain ⟨v, u, d, e, rfl, rfl, r1, r2, h⟩ := vs2 rs h
  cases r1 with
  | int i =>
    cases r2 with
    | int j => exact call_max2 hc pins s σ H _ us Q I r ⟨_, _, rfl, w _ _ h _ _ (.int _) m (.refl _ _)⟩
    | _ => exact h.elim
  | _ => exact h.elim
theorem cr_mn2 (hc : X.calm = true) : CallR X (.builtin "min") (liC X.K B mn2D) := fun pins s σ H xs us Q I r ⟨ds, M, P, rs, m, h, w⟩ => by
  obtain ⟨v, u, d, e, rfl, rfl, r1, r2, h⟩ := vs2 rs h
  cases r1 with
  | int i =>
    cases r2 with
    | int j => exact call_min2 hc pins s σ H _ us Q I r ⟨_, _, rfl, w _ _ h _ _ (.int _) m (.refl _ _)⟩
    | _ => exact h.elim
  | _ => exact h.elim
theorem cr_srt : CallR X (.builtin "sorted") (liC X.K B srtD) := fun pins s σ H xs us Q I r ⟨ds, M, P, rs, m, h, w⟩ => by
  obtain ⟨v, d, rfl, rfl, r1, p, ns, rfl, h0, h⟩ := vs1 rs h
  cases r1
  obtain ⟨vs, t, rs⟩ := h0.sq m
  rw [rs.ints] at t
  refine cr_sortedI pins s σ H _ us Q I r ⟨_, _, rfl, t, fun ns' q pm so hq => ?_⟩
  obtain ⟨g2, g3⟩ := m.lnew hq (DRs.of_ints ns')
  exact w _ _ (h ns' q pm so (m.free hq)) _ _ (.ref q) g2 g3
/-- repr of data -/
theorem cr_rpr (hg : X.A.guards = some []) (hu : X.A.units + 70 < cLine) : CallR X (.builtin "repr") (liC X.K B rprD) := fun pins s σ H xs us Q I r ⟨ds, M, P, rs, m, h, w⟩ => by
  obtain ⟨v, d, rfl, rfl, r1, x, hx, h1, h2, h3, h4, h5⟩ := vs1 rs h
  obtain ⟨u, rfl, ru⟩ := vals1 r
  obtain ⟨as, rd⟩ := Dp.reads I x v u (hx.dp m r1) ru
  have e := sizeLine_eq
  have hz : x.shown.length ≤ sizeLine := by omega
  cases hx with
  | non =>
    cases rd
    exact PySem.P.repr_of_none ⟨.str _, H, I.tok _, ⟨_, rfl⟩, w _ _ h5 _ _ (.str _) m (.refl _ _)⟩
  | bl b =>
    cases rd
    exact PySem.P.repr_of_bool ⟨.str _, H, I.tok _, ⟨_, rfl⟩, w _ _ h5 _ _ (.str _) m (.refl _ _)⟩
  | int i =>
    cases rd
    exact PySem.P.repr_of_int (of_decide_eq_true h1) ⟨.str _, H, I.tok _, ⟨_, rfl⟩, w _ _ h5 _ _ (.str _) m (.refl _ _)⟩
  | str i =>
    cases rd
    exact PySem.P.repr_of_str ⟨.str _, H, I.tok _, ⟨_, rfl⟩, w _ _ h5 _ _ (.str _) m (.refl _ _)⟩ hz
  | tup t =>
    cases r1
    cases ru
    exact repr_of_reads' rd h1 (fun z => by rw [h2] at z; cases z) hg (by omega) (fun _ _ z => z) (fun h' u tk hk => ⟨.str _, H, I.kept (t' := tk) hk, ⟨_, rfl⟩, w _ _ h5 _ _ (.str _) m (.refl _ _)⟩) hz
  | lst h0 t =>
    cases r1
    cases ru
    exact repr_of_reads' rd h1 (fun z => by rw [h2] at z; cases z) hg (by omega) (fun _ _ z => z) (fun h' u tk hk => ⟨.str _, H, I.kept (t' := tk) hk, ⟨_, rfl⟩, w _ _ h5 _ _ (.str _) m (.refl _ _)⟩) hz
end
end DL
set_option linter.all false
/-! isinstance -/
namespace DL
open PySem PySem.Spec PyProof.Rows L2
def kindIs : Kd → String → Bool
  | .non, _ => false
  | .bl, T => T == "bool" || T == "int"
  | .int, T => T == "int"
  | .str, T => T == "str"
  | .tup, T => T == "tuple"
  | .lst, T => T == "list"
  | .ins _, _ => false
def kitT (T : String) : Bool := kitB "NoneType" T == some (kindIs .non T) && kitB "bool" T == some (kindIs .bl T) && kitB "int" T == some (kindIs .int T) && kitB "str" T == some (kindIs .str T) && kitB "tuple" T == some (kindIs .tup T) && kitB "list" T == some (kindIs .lst T)
/-- an own class, for isinstance -/
structure ClsI (K : PySem.W.Frag) (C : Addr) : Prop where
  cl : Cls K C
  ha : PySem.W.findIn K (.ref C) "__class__" = some (some (.builtin "object.__class__"))
  hn : PySem.W.specialIn K (.builtin "object.__class__") "__get__" = some (some (.builtin "getset_descriptor.__get__"))
  tk : PySem.W.takesIn K (.builtin "object.__class__") = some true
  mr : PySem.W.mroIn K C (.type "object") = some true
  self : PySem.W.kitOne K (.ref C) (.ref C) = some true
  no : ∀ T ∈ ["NoneType", "bool", "int", "str", "tuple", "list"], PySem.W.kitOne K (.type T) (.ref C) = some false
  ty : ∀ T ∈ ["bool", "int", "str", "tuple", "list"], PySem.W.kitOne K (.ref C) (.type T) = some false
/-- what kinds may come, in a program with these classes -/
def KdOk (K : PySem.W.Frag) : Kd → Prop
  | .ins C => ClsI K C
  | _ => True
theorem kind_ty {K : PySem.W.Frag} {B : Bs} {H : Hp} {M : DHp} {v : V} {d : D} {k : Kd} (r : DR K H v d) (m : MB K B M H) (h : kindD M d = some k) (ok : KdOk K k) : ∃ t, TyX K H v t ∧ ((∃ T, t = .type T ∧ ((k = .non ∧ T = "NoneType") ∨ (k = .bl ∧ T = "bool") ∨ (k = .int ∧ T = "int") ∨ (k = .str ∧ T = "str") ∨ (k = .tup ∧ T = "tuple") ∨ (k = .lst ∧ T = "list"))) ∨ ∃ C, k = .ins C ∧ t = .ref C) := by
  cases r with
  | non => cases h; exact ⟨_, .base .non, .inl ⟨_, rfl, .inl ⟨rfl, rfl⟩⟩⟩
  | bl b => cases h; exact ⟨_, .base (.bl b), .inl ⟨_, rfl, .inr (.inl ⟨rfl, rfl⟩)⟩⟩
  | int b => cases h; exact ⟨_, .base (.int b), .inl ⟨_, rfl, .inr (.inr (.inl ⟨rfl, rfl⟩))⟩⟩
  | str b => cases h; exact ⟨_, .base (.str b), .inl ⟨_, rfl, .inr (.inr (.inr (.inl ⟨rfl, rfl⟩)))⟩⟩
  | ty n => cases h
  | tup t rl =>
    cases h
    have q : ∀ {a : Addr} {vs : List V}, SqT K H a vs → TyX K H (.ref a) (.type "tuple") := fun {a vs} t => by
      rcases t with (t | ⟨o, t⟩) | ⟨o, its, n, l, c, _⟩
      · exact .base (.tup t)
      · exact .fTuple t
      · exact .kTuple l c
    exact ⟨_, q t.sq, .inl ⟨_, rfl, .inr (.inr (.inr (.inr (.inl ⟨rfl, rfl⟩))))⟩⟩
  | ref a =>
    have h : kindO (M a) = some k := h
    cases e : M a with
    | none => rw [e] at h; cases h
    | some o =>
      rw [e] at h
      have x := m.m _ _ e
      cases o with
      | lst ds =>
        cases h
        obtain ⟨vs, e1, _⟩ := x
        exact ⟨_, .base (.lst e1), .inl ⟨_, rfl, .inr (.inr (.inr (.inr (.inr ⟨rfl, rfl⟩))))⟩⟩
      | frz ds =>
        cases h
        obtain ⟨_, vs, e1, _⟩ := x
        exact ⟨_, .base (.frz e1), .inl ⟨_, rfl, .inr (.inr (.inr (.inr (.inr ⟨rfl, rfl⟩))))⟩⟩
      | ins C fs =>
        cases h
        obtain ⟨dx, fv, e1, _⟩ := x
        have c : ClsI K C := ok
        exact ⟨_, .base (.ins e1 c.cl c.ha c.hn c.tk c.mr), .inr ⟨C, rfl, rfl⟩⟩
      | raw u => cases h
      | xd u => cases h
      | dic P w u => cases h
      | dki u => cases h
theorem kit_kind {K : PySem.W.Frag} {t : Value} {k : Kd} {T : String} (hT : kitT T = true) (h5 : T ∈ ["bool", "int", "str", "tuple", "list"]) (ok : KdOk K k) (h : ((∃ T, t = .type T ∧ ((k = .non ∧ T = "NoneType") ∨ (k = .bl ∧ T = "bool") ∨ (k = .int ∧ T = "int") ∨ (k = .str ∧ T = "str") ∨ (k = .tup ∧ T = "tuple") ∨ (k = .lst ∧ T = "list"))) ∨ ∃ C, k = .ins C ∧ t = .ref C)) :
    PySem.W.kitOne K t (.type T) = some (kindIs k T) := by
  unfold kitT at hT
  simp only [Bool.and_eq_true, beq_iff_eq] at hT
  obtain ⟨⟨⟨⟨⟨h1, h2⟩, h3⟩, h4⟩, h6⟩, h7⟩ := hT
  rcases h with ⟨_, rfl, h⟩ | ⟨C, rfl, rfl⟩
  · rcases h with ⟨rfl, rfl⟩ | ⟨rfl, rfl⟩ | ⟨rfl, rfl⟩ | ⟨rfl, rfl⟩ | ⟨rfl, rfl⟩ | ⟨rfl, rfl⟩
    · exact kit_ty h1
    · exact kit_ty h2
    · exact kit_ty h3
    · exact kit_ty h4
    · exact kit_ty h6
    · exact kit_ty h7
  · exact (show ClsI K C from ok).ty T h5
def kdIns : Kd → Addr → Bool
  | .ins C, D => decide (C = D)
  | _, _ => false
theorem kit_own {K : PySem.W.Frag} {t : Value} {k : Kd} {C : Addr} (hC : ClsI K C) (hk : ∀ D, k = .ins D → D = C) (h : ((∃ T, t = .type T ∧ ((k = .non ∧ T = "NoneType") ∨ (k = .bl ∧ T = "bool") ∨ (k = .int ∧ T = "int") ∨ (k = .str ∧ T = "str") ∨ (k = .tup ∧ T = "tuple") ∨ (k = .lst ∧ T = "list"))) ∨ ∃ C, k = .ins C ∧ t = .ref C)) :
    PySem.W.kitOne K t (.ref C) = some (kdIns k C) := by
  rcases h with ⟨_, rfl, h⟩ | ⟨D, rfl, rfl⟩
  · rcases h with ⟨rfl, rfl⟩ | ⟨rfl, rfl⟩ | ⟨rfl, rfl⟩ | ⟨rfl, rfl⟩ | ⟨rfl, rfl⟩ | ⟨rfl, rfl⟩ <;> exact hC.no _ (by simp)
  · obtain rfl := hk D rfl
    rw [hC.self]
    simp [kdIns]
section
variable {X : Cx} {B : Bs} {e : Expr} {te : DTE} {pos : Pos}
/-- isinstance(x, T) -/
def dIsi (T : String) (K : PySem.W.Frag) (t : DTE) : DTE := fun s M Q => t s M fun d M1 => ∃ k, kindD M1 d = some k ∧ KdOk K k ∧ Q (.bl (kindIs k T)) M1
theorem de_isi {p p1 : Pos} {T : String} {x : Str} (hm : X.mg "isinstance" = none) (hx : X.mg x = none) (he : DE X B e te) (hv : bootBuiltins x = some (.type T) := by decide +kernel) (hT : kitT T = true := by decide +kernel) (h5 : T ∈ ["bool", "int", "str", "tuple", "list"] := by decide)
    (hg : Gl X "isinstance" := by rfl) (hg2 : Gl X x := by rfl) (hn : x ≠ "__name__" := by decide) (hdb : (x == ("__debug__" : Str)) = false := by decide)
    (s1 : starEach [e, .Name x p1] X.env = (false, eval e X.env) :: starEach [.Name x p1] X.env := by rfl) :
    DE X B (.Call (.Name "isinstance" p) [e, .Name x p1] [] pos) (dIsi T X.K te) :=
  ⟨peI (pe_callB (he := s1) call_isi hg hm (by decide +kernel) (pa_cons he.run (pa_cons (pe_bltn (v := .ty T) hg2 hx hv rfl hn hdb) pa_nil) s1)) fun σ H Q ⟨s, M, P, hs, hm, h, w⟩ => liE_then hs hm h fun d M1 v H1 ⟨k, h1, h2, q⟩ r m f s1 => by
    obtain ⟨t, tx, h3⟩ := kind_ty r m h1 h2
    exact ⟨v, .ty T, t, _, _, rfl, .ty T, tx, kit_kind hT h5 h2 h3, w _ _ q _ _ (.bl _) m f⟩⟩
/-- isinstance(x, C), C an own class -/
def dIso (C : Addr) (K : PySem.W.Frag) (t : DTE) : DTE := fun s M Q => t s M fun d M1 => ∃ k, kindD M1 d = some k ∧ (∀ D, k = .ins D → D = C) ∧ Q (.bl (kdIns k C)) M1
theorem de_iso {p p1 : Pos} {C : Addr} {x : Str} (hm : X.mg "isinstance" = none) (hx : X.mg x = some (.ref C)) (hC : ClsI X.K C) (he : DE X B e te)
    (hg : Gl X "isinstance" := by rfl) (hg2 : Gl X x := by rfl) (hdb : (x == ("__debug__" : Str)) = false := by decide)
    (s1 : starEach [e, .Name x p1] X.env = (false, eval e X.env) :: starEach [.Name x p1] X.env := by rfl) :
    DE X B (.Call (.Name "isinstance" p) [e, .Name x p1] [] pos) (dIso C X.K te) :=
  ⟨peI (pe_callB (he := s1) call_isi hg hm (by decide +kernel) (pa_cons he.run (pa_cons (pe_glob (v := .ref C) hg2 hx rfl hdb) pa_nil) s1)) fun σ H Q ⟨s, M, P, hs, hm, h, w⟩ => liE_then hs hm h fun d M1 v H1 ⟨k, h1, h2, q⟩ r m f s1 => by
    obtain ⟨t, tx, h3⟩ := kind_ty r m h1 (by
      cases k with
      | ins D => obtain rfl := h2 D rfl; exact hC
      | _ => trivial)
    exact ⟨v, .ref C, t, _, _, rfl, .own C, tx, kit_own hC h2 h3, w _ _ q _ _ (.bl _) m f⟩⟩
/-- isinstance(x, (T, U)) -/
def dIs2 (T U : String) (K : PySem.W.Frag) (t : DTE) : DTE := fun s M Q => t s M fun d M1 => ∃ k, kindD M1 d = some k ∧ KdOk K k ∧ Q (.bl (kindIs k T || kindIs k U)) M1
theorem kit_two {K : PySem.W.Frag} {t u w : Value} {a b : Bool} (h1 : PySem.W.kitOne K t u = some a) (h2 : PySem.W.kitOne K t w = some b) : PySem.W.kitAny K t [u, w] = some (a || b) :=
  kitAny_cons h1 (fun e => by
    subst e
    exact kitAny_cons h2 (fun e => by subst e; exact kitAny_nil) fun e => by subst e; rfl) fun e => by subst e; rfl
theorem de_is2 {p p1 p2 p3 : Pos} {n : Nat} {T U : String} {x y : Str} (hm : X.mg "isinstance" = none) (hx : X.mg x = none) (hy : X.mg y = none) (he : DE X B e te) (hv : bootBuiltins x = some (.type T) := by decide +kernel) (hw : bootBuiltins y = some (.type U) := by decide +kernel)
    (hT : kitT T = true := by decide +kernel) (hU : kitT U = true := by decide +kernel) (h5 : T ∈ ["bool", "int", "str", "tuple", "list"] := by decide) (h6 : U ∈ ["bool", "int", "str", "tuple", "list"] := by decide)
    (hg : Gl X "isinstance" := by rfl) (hg2 : Gl X x := by rfl) (hg3 : Gl X y := by rfl) (hn : x ≠ "__name__" := by decide) (hn2 : y ≠ "__name__" := by decide) (hdb : (x == ("__debug__" : Str)) = false := by decide) (hdb2 : (y == ("__debug__" : Str)) = false := by decide)
    (s1 : starEach [e, .Tuple [.Name x p1, .Name y p2] n p3] X.env = (false, eval e X.env) :: starEach [.Tuple [.Name x p1, .Name y p2] n p3] X.env := by rfl) :
    DE X B (.Call (.Name "isinstance" p) [e, .Tuple [.Name x p1, .Name y p2] n p3] [] pos) (dIs2 T U X.K te) :=
  ⟨peI (pe_callB (he := s1) call_isiT hg hm (by decide +kernel) (pa_cons he.run (pa_cons (pe_tup (pa_cons (pe_bltn (v := .ty T) hg2 hx hv rfl hn hdb) (pa_cons (pe_bltn (v := .ty U) hg3 hy hw rfl hn2 hdb2) pa_nil))) pa_nil) s1)) fun σ H Q ⟨s, M, P, hs, hm, h, w⟩ => liE_then hs hm h fun d M1 v H1 ⟨k, h1, h2, q⟩ r m f s1 => by
    refine ⟨(by show 2 ≤ sizeLine; decide), fun tp hp => ?_⟩
    obtain ⟨m2, f2⟩ := m.hid (o := .tup [.ty T, .ty U]) hp
    obtain ⟨t, tx, h3⟩ := kind_ty (r.ts f2.s) m2 h1 h2
    exact ⟨v, tp, _, t, [.type T, .type U], _, rfl, upd_same, .cons (.ty T) (.cons (.ty U) .nil), tx, kit_two (kit_kind hT h5 h2 h3) (kit_kind hU h6 h2 h3), w _ _ q _ _ (.bl _) m2 (f.trans f2)⟩⟩
end
end DL
set_option linter.all false
/-! statements, calls, defs -/
namespace DL
open PySem PySem.Spec PyProof.Rows L2
/-- an exception of an own class -/
structure XD where
  cls : Addr
  fs : List (Str × D)
abbrev DXK := XD → DHp → Prop
abbrev DWX := XD → DSt → DHp → Prop
structure XR (K : PySem.W.Frag) (H0 : Hp) (M : DHp) (H : Hp) (c : Value) (dx : Option Addr) (x : XD) : Prop where
  c : c = .ref x.cls
  d : ∃ dd fv, dx = some dd ∧ H dd = some (.xd fv) ∧ M dd = none ∧ DFs K H fv x.fs ∧ H0 dd = none
def liX (K : PySem.W.Frag) (B : Bs) (W : DWX) : WX := fun c dx σ H => ∃ s M x, SR K H σ s ∧ MB K B M H ∧ XR K B.H M H c dx x ∧ W x s M
/-- what is wanted of an exception that leaves the code -/
def DTk (X : Cx) (B : Bs) (W : DWX) : Prop := Takes X (liX X.K B W)
/-! functions -/
abbrev DSp := List D → DHp → DK → DXK → Prop
def liF (K : PySem.W.Frag) (sp : DSp) : Sp := fun vs H Q E => ∃ ds M P PE, DRs K H vs ds ∧ MR K M H ∧ sp ds M P PE ∧ (∀ d M', P d M' → ∀ v H', DR K H' v d → MR K M' H' → Fr M H M' H' → Q v H') ∧
  ∀ x M', PE x M' → ∀ c dx H', XR K H M' H' c dx x → MR K M' H' → Fr M H M' H' → E c dx H'
structure RoomG (k : Nat) (A : Around) : Prop where
  r : Room k A
  g : A.guards = some []
theorem RoomG.mono {j k : Nat} {A : Around} (r : RoomG k A) (h : j ≤ k) : RoomG j A := ⟨r.r.mono h, r.g⟩
structure FnD (P : Program) (w : World) (K : PySem.W.Frag) (mg : Str → Option Value) (base : Heap) (k : Nat) (f : Addr) (fd : FuncData) (ps : List Str) (sp : DSp) : Prop where
  len : ∀ vs H Q E, liF K sp vs H Q E → vs.length = ps.length
  run : ∀ (A : Around) (outer : List Env) (s : Shared) (H : Hp) (args : Args) (us : List Value) (vs : List V) (Q : VK) (E : XK), RoomG k A → Env0 P w K mg base A outer s H → BindsTo s fd args (ps.zip us) → Vals vs us → liF K sp vs H Q E →
    codeAny (model P w) A (.call (.ref f) args) (CR (L2.CX P w) outer P w H s Q E) s
/-- a def by its name, as callers want it -/
structure Cal (P : Program) (w : World) (K : PySem.W.Frag) (mg : Str → Option Value) (base : Heap) (x : Str) (k : Nat) (sp : DSp) : Prop where
  ex : ∃ (f : Addr) (fd : FuncData) (ps : List Str), FnD P w K mg base k f fd ps sp ∧ mg x = some (.ref f) ∧ PySem.W.keepIn K (.ref f) = true ∧ Binds K fd ps []
/-! statements -/
structure DEn where
  nx : DSt → DHp → Prop
  rt : DK
  bk : DSt → DHp → Prop := fun _ _ => False
  ct : DSt → DHp → Prop := fun _ _ => False
abbrev DTS := DEn → DSt → DHp → Prop
def Ws (K : PySem.W.Frag) (B : Bs) (M : DHp) (H : Hp) (P : DSt → DHp → Prop) (Q : VS → Hp → Prop) : Prop := ∀ s' M', P s' M' → ∀ σ' H', SR K H' σ' s' → MB K B M' H' → Fr M H M' H' → Q σ' H'
structure We (K : PySem.W.Frag) (B : Bs) (M : DHp) (H : Hp) (d : DEn) (D : Ends) : Prop where
  nx : Ws K B M H d.nx D.nx
  rt : Wv K B M H d.rt D.rt
  bk : Ws K B M H d.bk D.bk
  ct : Ws K B M H d.ct D.ct
theorem Ws.go {K : PySem.W.Frag} {B : Bs} {M M1 : DHp} {H H1 : Hp} {P : DSt → DHp → Prop} {Q : VS → Hp → Prop} (w : Ws K B M H P Q) (f : Fr M H M1 H1) : Ws K B M1 H1 P Q := fun d M' p v H' r m g => w d M' p v H' r m (f.trans g)
theorem We.go {K : PySem.W.Frag} {B : Bs} {M M1 : DHp} {H H1 : Hp} {d : DEn} {D : Ends} (w : We K B M H d D) (f : Fr M H M1 H1) : We K B M1 H1 d D := ⟨w.nx.go f, w.rt.go f, w.bk.go f, w.ct.go f⟩
def liSt (K : PySem.W.Frag) (B : Bs) (t : DTS) : TS := fun D σ H => ∃ s M d, SR K H σ s ∧ MB K B M H ∧ t d s M ∧ We K B M H d D
structure DS (X : Cx) (B : Bs) (st : Stmt) (t : DTS) : Prop where
  run : PS X st (liSt X.K B t)
structure DSs (X : Cx) (B : Bs) (st : List Stmt) (t : DTS) : Prop where
  run : PSs X st (liSt X.K B t)
def sNext : DTS := fun d s M => d.nx s M
def sSeq (t u : DTS) : DTS := fun d s M => t { d with nx := u d } s M
def sDrop (t : DTE) : DTS := fun d s M => t s M fun _ M1 => d.nx s M1
def sRet (t : DTE) : DTS := fun d s M => t s M d.rt
def sRetN : DTS := fun d _ M => d.rt .non M
def sIf (c : DTT) (t u : DTS) : DTS := fun d s M => c s M fun k M1 => ifB k (t d s M1) (u d s M1)
abbrev DTG := D → DSt → DHp → (DSt → DHp → Prop) → Prop
abbrev DTGs := List D → DSt → DHp → (DSt → DHp → Prop) → Prop
def liG (K : PySem.W.Frag) (B : Bs) (t : DTG) : TG := fun v σ H Q => ∃ d s M P, DR K H v d ∧ SR K H σ s ∧ MB K B M H ∧ t d s M P ∧ Ws K B M H P Q
def liGs (K : PySem.W.Frag) (B : Bs) (t : DTGs) : TGs := fun v σ H Q => ∃ d s M P, DRs K H v d ∧ SR K H σ s ∧ MB K B M H ∧ t d s M P ∧ Ws K B M H P Q
structure DG (X : Cx) (B : Bs) (e : Expr) (t : DTG) : Prop where
  run : PG X e (liG X.K B t)
structure DGs (X : Cx) (B : Bs) (e : List Expr) (t : DTGs) : Prop where
  run : PGs X e (liGs X.K B t)
theorem pgI {X : Cx} {e : Expr} {t t' : TG} (h : PG X e t) (i : ∀ v σ H Q, t' v σ H Q → t v σ H Q) : PG X e t' := ⟨fun pins s σ H v u Q I r q => h.run pins s σ H v u Q I r (i _ _ _ _ q)⟩
theorem pgsI {X : Cx} {e : List Expr} {t t' : TGs} (h : PGs X e t) (i : ∀ v σ H Q, t' v σ H Q → t v σ H Q) : PGs X e t' := ⟨fun pins s σ H v u Q I r q => h.run pins s σ H v u Q I r (i _ _ _ _ q)⟩
theorem pgOr {X : Cx} {e : Expr} {t t' : TG} (h : PG X e t) (h' : PG X e t') : PG X e (fun v σ H Q => t v σ H Q ∨ t' v σ H Q) := ⟨fun pins s σ H v u Q I r q => q.elim (h.run pins s σ H v u Q I r) (h'.run pins s σ H v u Q I r)⟩
def gNm (i : Nat) : DTG := fun d s M P => P (s.set i (some d)) M
def gNl : DTGs := fun ds s M P => match ds with
  | [] => P s M
  | _ => False
def gCo (g : DTG) (gs : DTGs) : DTGs := fun ds s M P => match ds with
  | d :: ds => g d s M fun s1 M1 => gs ds s1 M1 P
  | _ => False
def gTp (n : Nat) (gs : DTGs) : DTG := fun d s M P => match d with
  | .tup ds => ds.length = n ∧ gs ds s M P
  | .ref p => ∃ ds, LstAt M p ds ∧ ds.length = n ∧ gs ds s M P
  | _ => False
def setD (o i v : D) (M : DHp) (Q : DHp → Prop) : Prop := match o, i with
  | .ref p, .int k => ∃ ds j, M p = some (.lst ds) ∧ ixN ds.length k = some j ∧ Q (upM M p (.lst (ds.set j v)))
  | _, _ => False
def gSb (o i : DTE) : DTG := fun d s M P => o s M fun x M1 => i s M1 fun y M2 => setD x y d M2 fun M3 => P s M3
def sAsg (t : DTE) (g : DTG) : DTS := fun d s M => t s M fun x M1 => g x s M1 d.nx
def sAug (i : Nat) (o : DOp) (t : DTE) : DTS := fun d s M => match s[i]? with
  | some (some x) => t s M fun y M1 => o x y M1 fun z M2 => d.nx (s.set i (some z)) M2
  | _ => False
section
variable {X : Cx} {B : Bs} {st : Stmt} {rest : List Stmt} {t u : DTS} {e : Expr} {te : DTE} {pos : Pos}
theorem dss_nil : DSs X B [] sNext := ⟨pssI pss_nil fun D σ H ⟨s, M, d, hs, hm, h, w⟩ => w.nx _ _ h _ _ hs hm (.refl _ _)⟩
theorem dss_cons (h1 : DS X B st t) (h2 : DSs X B rest u) : DSs X B (st :: rest) (sSeq t u) :=
  ⟨pssI (pss_cons h1.run h2.run) fun D σ H ⟨s, M, d, hs, hm, h, w⟩ => ⟨s, M, { d with nx := u d }, hs, hm, h, ⟨fun s' M' p σ' H' r m f => ⟨s', M', d, r, m, p, w.go f⟩, w.rt, w.bk, w.ct⟩⟩⟩
theorem dss_one (h1 : DS X B st t) : DSs X B [st] t := ⟨pss_one h1.run⟩
theorem ds_expr (he : DE X B e te) (hs : swapsWith e none pos.line X.env = pure false := by rfl) : DS X B (.Expr e pos) (sDrop te) :=
  ⟨psI (ps_expr he.run hs) fun D σ H ⟨s, M, d, hs, hm, h, w⟩ => liE_then hs hm h fun _ M1 v H1 p r m f s1 => w.nx _ _ p _ _ s1 m f⟩
theorem ds_doc {x j pos pos'} : DS X B (.Expr (.Constant (.str x) j pos) pos') sNext := ⟨psI ps_doc fun D σ H ⟨s, M, d, hs, hm, h, w⟩ => w.nx _ _ h _ _ hs hm (.refl _ _)⟩
theorem ds_pass : DS X B (.Pass pos) sNext := ⟨psI ps_pass fun D σ H ⟨s, M, d, hs, hm, h, w⟩ => w.nx _ _ h _ _ hs hm (.refl _ _)⟩
theorem ds_break : DS X B (.Break pos) (fun d s M => d.bk s M) := ⟨psI ps_break fun D σ H ⟨s, M, d, hs, hm, h, w⟩ => w.bk _ _ h _ _ hs hm (.refl _ _)⟩
theorem ds_continue : DS X B (.Continue pos) (fun d s M => d.ct s M) := ⟨psI ps_continue fun D σ H ⟨s, M, d, hs, hm, h, w⟩ => w.ct _ _ h _ _ hs hm (.refl _ _)⟩
theorem ds_ret (he : DE X B e te) : DS X B (.Return (some e) pos) (sRet te) :=
  ⟨psI (ps_ret he.run) fun D σ H ⟨s, M, d, hs, hm, h, w⟩ => ⟨s, M, d.rt, hs, hm, h, w.rt⟩⟩
theorem ds_retN : DS X B (.Return none pos) sRetN := ⟨psI ps_retN fun D σ H ⟨s, M, d, hs, hm, h, w⟩ => w.rt _ _ h _ _ .non hm (.refl _ _)⟩
theorem ds_if {c : Expr} {a b : List Stmt} {tc : DTT} (hc : DT X B c tc) (ha : DSs X B a t) (hb : DSs X B b u) : DS X B (.If c a b pos) (sIf tc t u) :=
  ⟨psI (ps_if hc.run ha.run hb.run) fun D σ H ⟨s, M, d, hs, hm, h, w⟩ => liT_then hs hm h fun k M1 H1 p m f s1 => ifB_ite (by
    cases k with
    | true => exact ⟨s, M1, d, s1, m, p, w.go f⟩
    | false => exact ⟨s, M1, d, s1, m, p, w.go f⟩)⟩
theorem dg_name (i : Nat) {x : Str} (hN : X.N.Nodup) (hi : X.N[i]? = some x := by rfl) (hx : Loc X.env.scope x := by first | exact .inl rfl | exact .inr rfl) (hf : X.fn x = true ∨ X.env.scope.names.lookup x = some .local := by first | exact .inl rfl | exact .inr rfl | assumption) : DG X B (.Name x pos) (gNm i) :=
  ⟨pgI (pg_name hN hi hx hf) fun v σ H Q ⟨d, s, M, P, hd, hs, hm, h, w⟩ => w _ _ h _ _ (SR.set hd hs) hm (.refl _ _)⟩
theorem dgs_nil : DGs X B [] gNl := ⟨pgsI pgs_nil fun v σ H Q ⟨d, s, M, P, hd, hs, hm, h, w⟩ => by
  cases hd with
  | nil => exact ⟨rfl, w _ _ h _ _ hs hm (.refl _ _)⟩
  | cons _ _ => exact h.elim⟩
theorem dgs_cons {es : List Expr} {g : DTG} {gs : DTGs} (h1 : DG X B e g) (h2 : DGs X B es gs) (hs : (assignEach (e :: es) X.env).map (·.2) = assign e X.env :: (assignEach es X.env).map (·.2) := by rfl) : DGs X B (e :: es) (gCo g gs) :=
  ⟨pgsI (pgs_cons h1.run h2.run hs) fun v σ H Q ⟨d, s, M, P, hd, hs, hm, h, w⟩ => by
    cases hd with
    | nil => exact h.elim
    | cons r1 r2 => exact ⟨_, _, rfl, _, s, M, _, r1, hs, hm, h, fun s1 M1 p σ1 H1 rs m f => ⟨_, s1, M1, P, r2.ts f.s, rs, m, p, w.go f⟩⟩⟩
theorem dg_tup {es : List Expr} {k n : Nat} {gs : DTGs} (hc : X.calm = true) (h : DGs X B es gs) (hn : (assignEach es X.env).length = n := by rfl) (hst : (assignEach es X.env).findIdx? (·.1) = none := by rfl) : DG X B (.Tuple es k pos) (gTp n gs) :=
  ⟨pgI (pgOr (pg_tup hc h.run hn hst) (pg_lst hc h.run hn hst)) fun v σ H Q ⟨d, s, M, P, hd, hs, hm, h, w⟩ => by
    cases hd with
    | tup t r => exact .inl ⟨_, _, rfl, t.sq, r.length.trans h.1, _, s, M, P, r, hs, hm, h.2, w⟩
    | ref a =>
      obtain ⟨ds, h1, h2, h3⟩ := h
      obtain ⟨vs, t, r⟩ := h1.sq hm
      exact .inr ⟨_, _, rfl, t, r.length.trans h2, _, s, M, P, r, hs, hm, h3, w⟩
    | _ => exact h.elim⟩
theorem set_D {K : PySem.W.Frag} {H : Hp} {M : DHp} {a b v : V} {o i d : D} {P : DHp → Prop} {Q : Hp → Prop} (ro : DR K H a o) (ri : DR K H b i) (rv : DR K H v d) (m : MB K B M H) (h : setD o i d M P) (w : ∀ M' H', P M' → MB K B M' H' → Fr M H M' H' → Q H') : rSetL a b v H Q := by
  cases ro with
  | ref p =>
    cases ri with
    | int k =>
      obtain ⟨ds, j, h1, h2, h3⟩ := h
      obtain ⟨vs, e1, e2⟩ := m.m _ _ h1
      obtain ⟨m2, f2⟩ := m.lput e1 h1 (DRs.set (i := j) rv e2)
      exact ⟨p, vs, k, j, rfl, rfl, e1, by rw [e2.length]; exact h2, w _ _ h3 m2 f2⟩
    | _ => exact h.elim
  | _ => exact h.elim
theorem dg_sub {o i : Expr} {to ti : DTE} (ho : DE X B o to) (hi : DE X B i ti) (ha : ∀ v, assign (.Subscript o i pos) X.env v = (do
      let z ← holding [v] (eval o X.env)
      let j ← holding [v, z] (eval i X.env)
      standAt pos
      holding [v, z, j] (setItem z j v)
      release [v, z, j] []) := by intro _; rfl) : DG X B (.Subscript o i pos) (gSb to ti) :=
  ⟨pgI (pg_sub ho.run hi.run set_list ha) fun v σ H Q ⟨d, s, M, P, hd, hs, hm, h, w⟩ => liE_then hs hm h fun x M1 a H1 p r m f s1 => liE_then s1 m p fun y M2 b H2 p2 r2 m2 f2 s2 =>
    set_D (r.ts f2.s) r2 (hd.ts (f.trans f2).s) m2 p2 fun M' H' q m3 f3 => w _ _ q _ _ (s2.ts f3.s) m3 ((f.trans f2).trans f3)⟩
theorem ds_asg {tg : Expr} {g : DTG} (he : DE X B e te) (hg : DG X B tg g) (hs : swapsWithSole [tg] e pos.line X.env = pure false := by rfl) (hw : swappedStores [tg] e X.env = pure none := by rfl) (h1 : (assignEach [tg] X.env).map (·.2) = [assign tg X.env] := by rfl) : DS X B (.Assign [tg] e pos) (sAsg te g) :=
  ⟨psI (ps_asg he.run hg.run hs hw h1) fun D σ H ⟨s, M, d, hs, hm, h, w⟩ => liE_then hs hm h fun x M1 a H1 p r m f s1 => ⟨x, s, M1, d.nx, r, s1, m, p, w.nx.go f⟩⟩
theorem ds_set (i : Nat) {x : Str} {pos' : Pos} (hN : X.N.Nodup) (he : DE X B e te) (hi : X.N[i]? = some x := by rfl) (hx : Loc X.env.scope x := by first | exact .inl rfl | exact .inr rfl) (hs : swapsWith e (some (.Name x pos')) pos.line X.env = pure false := by rfl) (hf : X.fn x = true ∨ X.env.scope.names.lookup x = some .local := by first | exact .inl rfl | exact .inr rfl | assumption) :
    DS X B (.Assign [.Name x pos'] e pos) (sAsg te (gNm i)) :=
  ⟨psI (ps_set hN hi hx he.run hs hf) fun D σ H ⟨s, M, d, hs, hm, h, w⟩ => liE_then hs hm h fun x M1 a H1 p r m f s1 => w.nx _ _ p _ _ (SR.set r s1) m f⟩
end
end DL
set_option linter.all false
/-! calls, defs -/
namespace DL
open PySem PySem.Spec PyProof.Rows L2
def dCall (sp : DSp) (W : DWX) (t : DTA) : DTE := fun s M Q => t s M fun ds M1 => sp ds M1 Q fun x M2 => W x s M2
section
variable {X : Cx} {B : Bs} {k : Nat} {sp : DSp} {W : DWX} {x : Str} {p pos : Pos} {e : Expr} {es : List Expr} {u : DTA}
theorem XR.ts {K : PySem.W.Frag} {H0 : Hp} {M M' : DHp} {H H' : Hp} {c : Value} {dx : Option Addr} {x : XD} (r : XR K H0 M H c dx x) (f : Fr M H M' H') : XR K H0 M' H' c dx x := by
  obtain ⟨dd, fv, e1, e2, e3, e4, e5⟩ := r.d
  obtain ⟨h1, h2⟩ := f.k _ _ e2 e3
  exact ⟨r.c, dd, fv, e1, h1, h2, e4.ts f.s, e5⟩
theorem XR.les {K : PySem.W.Frag} {H0 : Hp} {M M' : DHp} {H : Hp} {c : Value} {dx : Option Addr} {x : XD} (r : XR K H0 M H c dx x) (l : Les M' M) : XR K H0 M' H c dx x := by
  obtain ⟨dd, fv, e1, e2, e3, e4, e5⟩ := r.d
  exact ⟨r.c, dd, fv, e1, e2, l.free e3, e4, e5⟩
theorem XR.old {K : PySem.W.Frag} {H0 H1 : Hp} {M : DHp} {H : Hp} {c : Value} {dx : Option Addr} {x : XD} (r : XR K H1 M H c dx x) (l : TS0 H0 H1) : XR K H0 M H c dx x := by
  obtain ⟨dd, fv, e1, e2, e3, e4, e5⟩ := r.d
  exact ⟨r.c, dd, fv, e1, e2, e3, e4, l.d _ e5⟩
/-- a def runs, called from here -/
theorem run_D {f : Addr} {fd : FuncData} {ps : List Str} {pins : List (Addr × Obj)} {s : Shared} {σ : VS} {H : Hp} {Q : VK} {us : List Value} {vs : List V} {s0 : DSt} {M : DHp} {ds : List D} {P : DK} (F : FnD X.prog X.w X.K X.mg X.base k f fd ps sp) (hr : RoomG k X.A) (tk : DTk X B W)
    (hb : Binds X.K fd ps []) (I : Inv X pins σ H s) (r : Vals vs us) (rs : DRs X.K H vs ds) (hs : SR X.K H σ s0) (m : MB X.K B M H) (h : sp ds M P fun x M2 => W x s0 M2) (w : Wv X.K B M H P Q) : wpAny (model X.prog X.w) X.A (call (.ref f) us) (EP X pins σ Q) X.xe s := by
  have hsp : liF X.K sp vs H Q (fun c dx H' => liX X.K B W c dx σ H') := ⟨ds, M, P, _, rs, m.m, h, fun d M' q v H' a b c => w d M' q v H' a ⟨b, m.b.trans c⟩ c, fun x M' q c dx H' a b g => ⟨s0, M', x, hs.ts g.s, ⟨b, m.b.trans g⟩, a.old m.b.s, q⟩⟩
  have hl : (us ++ []).length = ps.length := by
    rw [List.append_nil, ← r.length]
    exact F.len _ _ _ _ hsp
  have hb2 := hb s us I.kIn hl
  rw [List.append_nil] at hb2
  refine wpAny_call (codeAny_mono (F.run X.A X.stack s H ⟨us, []⟩ us vs Q _ hr I.env0 hb2 r hsp) fun out s' hq => ?_)
  cases out with
  | error er => exact tk er s' (XE.of_call I (fun c d H' z => z) hq)
  | ok fl =>
    cases fl with
    | ret v => exact I.after hq
    | next => exact hq.elim
    | brk => exact hq.elim
    | cont => exact hq.elim
theorem de_call (C : Cal X.prog X.w X.K X.mg X.base x k sp) (hr : RoomG k X.A) (tk : DTk X B W) (ha : DA X B (e :: es) u) (hg : Gl X x := by rfl) (hdb : (x == ("__debug__" : Str)) = false := by decide)
    (he : starEach (e :: es) X.env = (false, eval e X.env) :: starEach es X.env := by rfl) (hpl : (backTo pos (starEach es X.env)).any (·.1) = false := by rfl) : DE X B (.Call (.Name x p) (e :: es) [] pos) (dCall sp W u) := by
  obtain ⟨f, fd, ps, F, hm, hk, hb⟩ := C.ex
  refine ⟨⟨fun pins s σ H Q I ⟨s0, M, P, hs, m, h, w⟩ => ?_⟩⟩
  refine wpAny_Call_Name_kw (ld_glob I hg hm ?_ hdb)
  refine PySem.W.callWith_K (h₀ := X.base) I.ok.mod.kin hk (thn (ha.run.run pos pins s σ H _ I (liA_then hs m h fun ds M1 vs H1 q r m1 f1 s1 => (⟨ds, M1, P, r, s1, m1, q, w.go f1⟩ : ∃ ds M1 P1, DRs X.K H1 vs ds ∧ SR X.K H1 σ s0 ∧ MB X.K B M1 H1 ∧ sp ds M1 P1 (fun x M2 => W x s0 M2) ∧ Wv X.K B M1 H1 P1 Q))) fun us s1 ⟨vs, H1, I1, r, ds, M1, P1, rs, hs1, m1, q, w1⟩ => ⟨I1.kIn, run_D F hr tk hb I1 r rs hs1 m1 q w1⟩) he hpl
theorem de_call0 (C : Cal X.prog X.w X.K X.mg X.base x k sp) (hr : RoomG k X.A) (tk : DTk X B W) (hg : Gl X x := by rfl) (hdb : (x == ("__debug__" : Str)) = false := by decide) : DE X B (.Call (.Name x p) [] [] pos) (dCall sp W aNil) := by
  obtain ⟨f, fd, ps, F, hm, hk, hb⟩ := C.ex
  refine ⟨⟨fun pins s σ H Q I ⟨s0, M, P, hs, m, h, w⟩ => ?_⟩⟩
  refine wpAny_Call_Name_kw (ld_glob I hg hm ?_ hdb)
  exact PySem.W.callWith_K0 I.kIn hk (run_D (us := []) F hr tk hb I .nil .nil hs m h w)
end
/-- where nothing that is raised is wished for -/
abbrev W0 : DWX := fun _ _ _ => False
theorem tk0 {X : Cx} {B : Bs} : DTk X B W0 := fun u s' ⟨_, _, _, _, _, _, _, _, _, _, _, _, _, _, _, _, _, _, _, _, _, _, z⟩ => z.elim
/-! defs -/
def startD (N : List Str) (ds : List D) : DSt := ds.map some ++ List.replicate (N.length - ds.length) none
/-- less is told behind -/
def Lk (P : DK) : DK := fun d M => ∃ M', Les M' M ∧ P d M'
def Lx (P : DXK) : DWX := fun x _ M => ∃ M', Les M' M ∧ P x M'
theorem Lk.eq {P : DK} {d e : D} {M : DHp} (h : P d M) (q : d = e) : Lk P e M := ⟨M, .refl M, q ▸ h⟩
theorem Lk.of {P : DK} {d : D} {M : DHp} (h : P d M) : Lk P d M := ⟨M, .refl M, h⟩
section
variable {P₀ : Program} {w : World} {K : PySem.W.Frag} {mg : Str → Option Value} {base : Heap}
theorem fn_D {x qual : Str} {st : Stmt} {f : Addr} {fd : FuncData} {N ps : List Str} {k : Nat} {sp : DSp} (F : Fun K x qual st f fd) (S : FnScope N ps (defScope st)) (len : ∀ ds M P PE, sp ds M P PE → ds.length = ps.length)
    (hbody : ∀ (cdv : Value) (A : Around) (outer : List Env) (s : Shared) (H : Hp) (E : XK) (ds : List D) (M : DHp) (P : DK) (PE : DXK), RoomG k (A.deeper (envOfC qual (defScope st) s.heap.objs.size f cdv)) →
      DTk (cxOf (L2.CX P₀ w) P₀ w K mg base N qual (defScope st) f cdv A outer s H E) ⟨M, H⟩ (Lx PE) → sp ds M P PE →
      ∃ t, DSs (cxOf (L2.CX P₀ w) P₀ w K mg base N qual (defScope st) f cdv A outer s H E) ⟨M, H⟩ (defBody st) t ∧ t { nx := fun _ M' => Lk P .non M', rt := Lk P } (startD N ds) M) : FnD P₀ w K mg base (k + 1) f fd ps sp := by
  obtain ⟨oc, od, kV, doc, pm, an, cdv, ct, osl, rfl, lk, hcd⟩ := F.ex
  have len' : ∀ vs H Q E, liF K sp vs H Q E → vs.length = ps.length := fun vs H Q E ⟨ds, M, P, PE, r, _, h, _⟩ => by
    rw [r.length]
    exact len _ _ _ _ h
  refine ⟨len', fun A outer s H args us vs Q E rg e0 hb r hsp => ?_⟩
  have hl := len' _ _ _ _ hsp
  obtain ⟨ds, M, P, PE, rs, m, h, wq, we⟩ := hsp
  have keepB : ∀ b o, base.get? b = some o → s.heap.get? b = some o := fun b o q => (e0.bs b o q).1
  have hin : K.In s.heap := e0.mod.kin.keeps keepB
  have nol : s.heap.NoLimit := e0.mod.nolimit.keeps keepB
  have kinds : ∀ y ∈ ps.zip us, (defScope st).names.lookup y.1 = some .local ∨ ((defScope st).names.lookup y.1 = some .cell ∧ ((cellsFrom (s.heap.objs.size + 1) (defScope st).names []).lookup y.1).isSome = true) := fun y hy =>
    (S.par y.1 (List.of_mem_zip hy).1).elim .inl fun z => .inr ⟨z, PySem.W.cellsFrom_some _ _ _ (.inl z)⟩
  refine codeAny_call_function rg.r.depth (hin _ _ lk) rfl S.co S.gen rfl (PySem.W.codeRec_of hin hcd)
    (hb _ _ _ _ ?_)
  refine wpAny_newFunctionEnv_cells S.kind kinds fun env q s1 inc => ?_
  subst q
  have tk : DTk (cxOf (L2.CX P₀ w) P₀ w K mg base N qual (defScope st) f cdv A outer s H E) ⟨M, H⟩ (Lx PE) := fun u s' z =>
    takes_of (X := cxOf (L2.CX P₀ w) P₀ w K mg base N qual (defScope st) f cdv A outer s H E) (E := E) rfl rfl rfl rfl u s' (by
      obtain ⟨a, B0, sI, pins, σ, H', c, dx, z1, z2, z3, z4, z5, z6, z7, z8, s0, M', x, y1, y2, y3, M2, l, q⟩ := z
      exact ⟨a, B0, sI, pins, σ, H', c, dx, z1, z2, z3, z4, z5, z6, z7, z8, we x M2 q c dx H' (y3.les l) (y2.m.les l) (y2.b.les l)⟩)
  refine ⟨nol.keeps inc.toInCall.keep, codeAny_func ?_⟩
  obtain ⟨t, ht, hq⟩ := hbody cdv A outer s H E ds M P PE ⟨rg.r.deeper _, rg.g⟩ tk h
  have I : Inv (cxOf (L2.CX P₀ w) P₀ w K mg base N qual (defScope st) f cdv A outer s H E) [] (start N vs) H s1 := inv_start S rg.r.hd e0 hl r inc
  have st0 : SR K H (start N vs) (startD N ds) := by
    unfold L2.start startD
    rw [rs.length]
    exact SR.start _ rs
  have fin : ∀ {σ' : VS} {H' : Hp} {v : V} {u : Value} {s' : Shared}, Inv (cxOf (L2.CX P₀ w) P₀ w K mg base N qual (defScope st) f cdv A outer s H E) [] σ' H' s' → RelV v u → Q v H' → CE outer P₀ w H s Q u s' := fun {σ' H' v u s'} J rv q =>
    ⟨v, H', J.os, J.bare, J.base, J.hok, rv, q⟩
  refine wpAny_mono (ht.run.run [] s1 (start N vs) H { nx := fun _ H' => Q .non H', rt := Q } I ⟨_, M, _, st0, ⟨m, .refl _ _⟩, hq, ⟨fun s' M' ⟨M2, l, p⟩ σ' H' _ b c => wq _ _ p _ _ .non (b.m.les l) (c.les l), fun d M' ⟨M2, l, p⟩ v H' a b c => wq _ _ p _ _ a (b.m.les l) (c.les l), fun _ _ z => z.elim, fun _ _ z => z.elim⟩⟩) (fun fl s' hs => ?_) fun er s' hs => hs
  cases fl with
  | ret u =>
    obtain ⟨v, _, _, J, rv, q⟩ := hs
    exact fin J rv q
  | next =>
    obtain ⟨_, _, J, q⟩ := hs
    exact fin (v := V.non) (u := Value.none) J rfl q
  | brk =>
    obtain ⟨_, _, _, z⟩ := hs
    exact z.elim
  | cont =>
    obtain ⟨_, _, _, z⟩ := hs
    exact z.elim
theorem FnD.mono {j k : Nat} {f : Addr} {fd : FuncData} {ps : List Str} {sp : DSp} (F : FnD P₀ w K mg base j f fd ps sp) (h : j ≤ k) : FnD P₀ w K mg base k f fd ps sp := ⟨F.len, fun A outer s H args us vs Q E hr => F.run A outer s H args us vs Q E (hr.mono h)⟩
theorem Cal.mono {x : Str} {j k : Nat} {sp : DSp} (C : Cal P₀ w K mg base x j sp) (h : j ≤ k) : Cal P₀ w K mg base x k sp := let ⟨f, fd, ps, F, r⟩ := C.ex; ⟨f, fd, ps, F.mono h, r⟩
/-- a weaker promise -/
theorem FnD.imp {k : Nat} {f : Addr} {fd : FuncData} {ps : List Str} {sp sp' : DSp} (F : FnD P₀ w K mg base k f fd ps sp) (h : ∀ ds M P PE, sp' ds M P PE → sp ds M P PE) : FnD P₀ w K mg base k f fd ps sp' :=
  have i : ∀ vs H Q E, liF K sp' vs H Q E → liF K sp vs H Q E := fun vs H Q E ⟨ds, M, P, PE, r, m, q, z⟩ => ⟨ds, M, P, PE, r, m, h _ _ _ _ q, z⟩
  ⟨fun vs H Q E q => F.len vs H Q E (i _ _ _ _ q), fun A outer s H args us vs Q E hr he hb hv hs => F.run A outer s H args us vs Q E hr he hb hv (i _ _ _ _ hs)⟩
theorem Cal.imp {x : Str} {k : Nat} {sp sp' : DSp} (C : Cal P₀ w K mg base x k sp) (h : ∀ ds M P PE, sp' ds M P PE → sp ds M P PE) : Cal P₀ w K mg base x k sp' := let ⟨f, fd, ps, F, r⟩ := C.ex; ⟨f, fd, ps, F.imp h, r⟩
end
end DL
set_option linter.all false
/-! loops, comprehensions -/
namespace DL
open PySem PySem.Spec PyProof.Rows L2
open RT (ItvT pi_revA)
structure DIt where
  xs : List D
  ok : DHp → Prop
/-- how a walk of things gives values -/
structure ItD (K : PySem.W.Frag) (J : DIt) (it : It) (H0 : Hp) : Prop where
  go : ∀ i M H, TS0 H0 H → MR K M H → J.ok M → i < J.xs.length → it.go i H
  stop : ∀ M H, TS0 H0 H → MR K M H → J.ok M → it.stop J.xs.length H
  yld : ∀ i M H x H', TS0 H0 H → MR K M H → J.ok M → i < J.xs.length → it.yld i H x H' → ∃ d, J.xs[i]? = some d ∧ DR K H' x d ∧ MR K M H' ∧ Fr M H M H'
abbrev DTI := DSt → DHp → (DIt → DHp → Prop) → Prop
def liI (K : PySem.W.Frag) (B : Bs) (t : DTI) : TI := fun σ H R => ∃ s M P, SR K H σ s ∧ MB K B M H ∧ t s M P ∧ ∀ J M', P J M' → ∀ it H', ItD K J it H' → MB K B M' H' → Fr M H M' H' → R it H'
structure DI (X : Cx) (B : Bs) (tg iter : Expr) (t : DTI) : Prop where
  run : PI X tg iter (liI X.K B t)
theorem piI {X : Cx} {tg e : Expr} {t t' : TI} (h : PI X tg e t) (i : ∀ σ H Q, t' σ H Q → t σ H Q) : PI X tg e t' := ⟨fun pins s σ H Q I q => h.run pins s σ H Q I (i _ _ _ q)⟩
/-- less is told -/
def Wk (P : DSt → DHp → Prop) : DSt → DHp → Prop := fun s M => ∃ s' M', Lss s' s ∧ Les M' M ∧ P s' M'
theorem Wk.of {P : DSt → DHp → Prop} {s : DSt} {M : DHp} (h : P s M) : Wk P s M := ⟨s, M, .refl s, .refl M, h⟩
def sFor (wi : DTI) (g : DTG) (tb : DTS) : DTS := fun d s M => wi s M fun J M1 => ∃ Pv : Nat → DSt → DHp → Prop, Wk (Pv 0) s M1 ∧ (∀ i s M, i ≤ J.xs.length → Pv i s M → J.ok M) ∧
  (∀ i x s M, J.xs[i]? = some x → Pv i s M → g x s M fun s' M' => tb { d with nx := Wk (Pv (i + 1)), ct := Wk (Pv (i + 1)), bk := d.nx } s' M') ∧ ∀ s M, Pv J.xs.length s M → d.nx s M
def sWhile (c : DTT) (tb : DTS) : DTS := fun d s M => ∃ (Pv : Nat → DSt → DHp → Prop) (n : Nat), Wk (Pv n) s M ∧ ∀ n s M, Pv n s M → c s M fun k M1 => ifB k (tb { d with nx := Wk (fun s' M' => ∃ m, m < n ∧ Pv m s' M'), ct := Wk (fun s' M' => ∃ m, m < n ∧ Pv m s' M'), bk := d.nx } s M1) (d.nx s M1)
/-! what is walked -/
def iSq (t : DTE) : DTI := fun s M R => t s M fun d M1 => ∃ ds, SqD M1 d ds ∧ R ⟨ds, fun M => SqD M d ds⟩ M1
def rgD (a b : Int) : List D := (List.range (b - a).toNat).map fun i => D.int (a + (i : Nat))
def iRg1 (t : DTE) : DTI := fun s M R => t s M fun d M1 => ∃ j, d = .int j ∧ (-(2 ^ 62) ≤ j ∧ j < 2 ^ 62) ∧ R ⟨rgD 0 j, fun _ => True⟩ M1
def iRg2 (t u : DTE) : DTI := fun s M R => t s M fun d M1 => u s M1 fun e M2 => ∃ i j, d = .int i ∧ e = .int j ∧ (-(2 ^ 62) ≤ i ∧ i < 2 ^ 62 ∧ -(2 ^ 62) ≤ j ∧ j < 2 ^ 62) ∧ R ⟨rgD i j, fun _ => True⟩ M2
def prD (xs ys : List D) : List D := (xs.zip ys).map fun p => D.tup [p.1, p.2]
def enD (xs : List D) : List D := xs.zipIdx.map fun p => D.tup [.int (p.2 : Nat), p.1]
def iEn (t : DTE) : DTI := fun s M R => t s M fun d M1 => ∃ ds, SqD M1 d ds ∧ R ⟨enD ds, fun M => SqD M d ds⟩ M1
def iRv (t : DTE) : DTI := fun s M R => t s M fun d M1 => ∃ ds, SqD M1 d ds ∧ R ⟨ds.reverse, fun M => SqD M d ds⟩ M1
theorem ItD.weak {K : PySem.W.Frag} {xs : List D} {ok ok' : DHp → Prop} {it : It} {H0 : Hp} (i : ItD K ⟨xs, ok⟩ it H0) (h : ∀ M, ok' M → ok M) : ItD K ⟨xs, ok'⟩ it H0 :=
  ⟨fun j M H a b c d => i.go j M H a b (h M c) d, fun M H a b c => i.stop M H a b (h M c), fun j M H x H' a b c d e => i.yld j M H x H' a b (h M c) d e⟩
theorem SqD.at {M : DHp} {p : Addr} {ds : List D} (h : SqD M (.ref p) ds) : LstAt M p ds := by
  rcases h with h | ⟨q, e, h⟩
  · cases h
  · cases e; exact h
section
variable {X : Cx} {B : Bs} {tg iter e : Expr} {te tf : DTE} {pos p : Pos}
theorem itd_tup {K : PySem.W.Frag} {H0 : Hp} {a : Addr} {vs : List V} {ds : List D} (t : SqT K H0 a vs) (r : DRs K H0 vs ds) : ItD K ⟨ds, fun _ => True⟩ (Itt K a) H0 where
  go := fun i M H e m _ hi => by
    obtain ⟨v, hv, _⟩ := (r.ts e).getD (List.getElem?_eq_getElem hi)
    exact ⟨vs, v, sqT_ts t e, hv⟩
  stop := fun M H e m _ => ⟨vs, sqT_ts t e, by rw [r.length]; exact Nat.le_refl _⟩
  yld := fun i M H x H' e m _ hi ⟨h1, h2⟩ => by
    subst h1
    obtain ⟨d, h3, h4⟩ := (r.ts e).get (h2 _ (sqT_ts t e))
    exact ⟨d, h3, h4, m, .refl _ _⟩
theorem itd_lst {K : PySem.W.Frag} {H0 : Hp} {a : Addr} {ds : List D} : ItD K ⟨ds, fun M => LstAt M a ds⟩ (Itl K a) H0 where
  go := fun i M H e m ok hi => by
    obtain ⟨vs, t, r⟩ := listOf (K := K) (B := ⟨M, H⟩) ⟨m, .refl _ _⟩ ok
    obtain ⟨v, hv, _⟩ := r.getD (List.getElem?_eq_getElem hi)
    exact ⟨vs, v, t, hv⟩
  stop := fun M H e m ok => by
    obtain ⟨vs, t, r⟩ := listOf (K := K) (B := ⟨M, H⟩) ⟨m, .refl _ _⟩ ok
    exact ⟨vs, t, by rw [r.length]; exact Nat.le_refl _⟩
  yld := fun i M H x H' e m ok hi ⟨h1, h2⟩ => by
    subst h1
    obtain ⟨vs, t, r⟩ := listOf (K := K) (B := ⟨M, H'⟩) ⟨m, .refl _ _⟩ ok
    obtain ⟨d, h3, h4⟩ := r.get (h2 _ t)
    exact ⟨d, h3, h4, m, .refl _ _⟩
theorem rgD_len (a b : Int) : (rgD a b).length = (b - a).toNat := by unfold rgD; rw [List.length_map, List.length_range]
theorem rgD_get {a b : Int} {i : Nat} (h : i < (b - a).toNat) : (rgD a b)[i]? = some (.int (a + (i : Nat))) := by
  unfold rgD
  rw [List.getElem?_map, List.getElem?_range h]
  rfl
theorem itd_rng {K : PySem.W.Frag} {H0 : Hp} {a b : Int} : ItD K ⟨rgD a b, fun _ => True⟩ (Itr a (b - a).toNat) H0 where
  go := fun i M H e m ok hi => by
    have h : i < (rgD a b).length := hi
    rw [rgD_len] at h
    exact h
  stop := fun M H e m ok => by
    show (b - a).toNat ≤ (rgD a b).length
    rw [rgD_len]
    exact Nat.le_refl _
  yld := fun i M H x H' e m ok hi ⟨h1, h2⟩ => by
    subst h1 h2
    have h : i < (rgD a b).length := hi
    rw [rgD_len] at h
    exact ⟨_, rgD_get h, .int _, m, .refl _ _⟩
theorem itd_revL {K : PySem.W.Frag} {H0 : Hp} {a : Addr} {ds : List D} {n : Nat} (hn : n = ds.length) : ItD K ⟨ds.reverse, fun M => LstAt M a ds⟩ (Itv K a n) H0 where
  go := fun i M H e m ok hi => by
    subst hn
    obtain ⟨vs, t, r⟩ := listOf (K := K) (B := ⟨M, H⟩) ⟨m, .refl _ _⟩ ok
    have hi : i < ds.reverse.length := hi
    rw [List.length_reverse] at hi
    obtain ⟨v, hv, _⟩ := r.getD (List.getElem?_eq_getElem (i := ds.length - 1 - i) (by omega))
    exact ⟨hi, vs, v, t, hv⟩
  stop := fun M H e m ok => by
    show n ≤ ds.reverse.length
    rw [List.length_reverse, hn]
    exact Nat.le_refl _
  yld := fun i M H x H' e m ok hi ⟨h1, h2⟩ => by
    subst h1 hn
    have hi : i < ds.reverse.length := hi
    rw [List.length_reverse] at hi
    obtain ⟨vs, t, r⟩ := listOf (K := K) (B := ⟨M, H'⟩) ⟨m, .refl _ _⟩ ok
    obtain ⟨d, h3, h4⟩ := r.get (h2 _ t)
    refine ⟨d, ?_, h4, m, .refl _ _⟩
    show ds.reverse[i]? = some d
    rw [List.getElem?_reverse hi]
    exact h3
theorem itd_revT {K : PySem.W.Frag} {H0 : Hp} {a : Addr} {vs : List V} {ds : List D} {n : Nat} (hn : n = ds.length) (t : SqT K H0 a vs) (r : DRs K H0 vs ds) : ItD K ⟨ds.reverse, fun _ => True⟩ (ItvT K a n) H0 where
  go := fun i M H e m ok hi => by
    subst hn
    have hi : i < ds.reverse.length := hi
    rw [List.length_reverse] at hi
    obtain ⟨v, hv, _⟩ := (r.ts e).getD (List.getElem?_eq_getElem (i := ds.length - 1 - i) (by omega))
    exact ⟨hi, vs, v, sqT_ts t e, hv⟩
  stop := fun M H e m ok => by
    show n ≤ ds.reverse.length
    rw [List.length_reverse, hn]
    exact Nat.le_refl _
  yld := fun i M H x H' e m ok hi ⟨h1, h2⟩ => by
    subst h1 hn
    have hi : i < ds.reverse.length := hi
    rw [List.length_reverse] at hi
    obtain ⟨d, h3, h4⟩ := (r.ts e).get (h2 _ (sqT_ts t e))
    refine ⟨d, ?_, h4, m, .refl _ _⟩
    show ds.reverse[i]? = some d
    rw [List.getElem?_reverse hi]
    exact h3
theorem enD_len (ds : List D) : (enD ds).length = ds.length := by simp [enD]
theorem enD_get {ds : List D} {i : Nat} {d : D} (h : ds[i]? = some d) : (enD ds)[i]? = some (.tup [.int (i : Nat), d]) := by
  unfold enD
  rw [List.getElem?_map, List.getElem?_zipIdx, h]
  simp
/-- a fresh pair -/
theorem pair_new {K : PySem.W.Frag} {M : DHp} {H : Hp} {T : Addr} {x y : V} {a b : D} {o : Obj} (m : MR K M H) (ho : o.dict = none) (hT : H T = none) (ra : DR K H x a) (rb : DR K H y b) : DR K (upd H T (.frz o (.tup [x, y]))) (.ref T) (.tup [a, b]) ∧ MR K M (upd H T (.frz o (.tup [x, y]))) ∧ Fr M H M (upd H T (.frz o (.tup [x, y]))) :=
  m.tnew ho hT (.cons ra (.cons rb .nil))
theorem itd_enL {K : PySem.W.Frag} {H0 : Hp} {a : Addr} {ds : List D} : ItD K ⟨enD ds, fun M => LstAt M a ds⟩ (IteL K a) H0 where
  go := fun i M H e m ok hi => by
    obtain ⟨vs, t, r⟩ := listOf (K := K) (B := ⟨M, H⟩) ⟨m, .refl _ _⟩ ok
    have hi : i < (enD ds).length := hi
    rw [enD_len] at hi
    obtain ⟨v, hv, _⟩ := r.getD (List.getElem?_eq_getElem hi)
    exact ⟨vs, v, t, hv⟩
  stop := fun M H e m ok => by
    obtain ⟨vs, t, r⟩ := listOf (K := K) (B := ⟨M, H⟩) ⟨m, .refl _ _⟩ ok
    exact ⟨vs, t, by show vs.length ≤ (enD ds).length; rw [r.length, enD_len]; exact Nat.le_refl _⟩
  yld := fun i M H x H' e m ok hi ⟨T, z, o, h1, h2, ho, h3, h4⟩ => by
    subst h1 h3
    obtain ⟨vs, t, r⟩ := listOf (K := K) (B := ⟨M, H⟩) ⟨m, .refl _ _⟩ ok
    obtain ⟨d, h5, h6⟩ := r.get (h4 _ t)
    obtain ⟨g1, g2, g3⟩ := pair_new m ho h2 (.int (i : Nat)) h6
    exact ⟨_, enD_get h5, g1, g2, g3⟩
theorem itd_enT {K : PySem.W.Frag} {H0 : Hp} {a : Addr} {vs : List V} {ds : List D} (t : SqT K H0 a vs) (r : DRs K H0 vs ds) : ItD K ⟨enD ds, fun _ => True⟩ (IteT K a) H0 where
  go := fun i M H e m ok hi => by
    have hi : i < (enD ds).length := hi
    rw [enD_len] at hi
    obtain ⟨v, hv, _⟩ := (r.ts e).getD (List.getElem?_eq_getElem hi)
    exact ⟨vs, v, sqT_ts t e, hv⟩
  stop := fun M H e m ok => ⟨vs, sqT_ts t e, by show vs.length = (enD ds).length; rw [r.length, enD_len]⟩
  yld := fun i M H x H' e m ok hi ⟨T, z, o, h1, h2, ho, h3, h4⟩ => by
    subst h1 h3
    obtain ⟨d, h5, h6⟩ := (r.ts e).get (h4 _ (sqT_ts t e))
    obtain ⟨g1, g2, g3⟩ := pair_new m ho h2 (.int (i : Nat)) h6
    exact ⟨_, enD_get h5, g1, g2, g3⟩
/-- a list or a tuple, walked -/
def vSeq (K : PySem.W.Frag) (tl : TE) : TI := fun σ H R => tl σ H fun x H1 => ∃ a xs, x = .ref a ∧ ((SqL K H1 a xs ∧ R (Itl K a) H1) ∨ (SqT K H1 a xs ∧ R (Itt K a) H1))
theorem pi_vSeq {l : Expr} {tl : TE} (hl : PE X l tl) : PI X tg l (vSeq X.K tl) := by
  refine ⟨fun pins s σ H R I h => thn (hl.run pins s σ H _ I h) fun v s1 ⟨x, H1, I1, r1, a, xs, q0, q⟩ => ?_⟩
  subst q0
  obtain rfl : v = Value.ref a := r1
  rcases q with ⟨hq, q⟩ | ⟨hq, q⟩
  · obtain ⟨its, _, pl, _⟩ := I1.list hq
    exact wpAny_pyIter_list pl.isList (pi_one (tk := s1.toks) I1 _ (turn_list a _) ⟨_, Heap.get?_push_size _ rfl, rfl, rfl⟩ q)
  · obtain ⟨its, _, pl, _⟩ := I1.tuple hq
    exact wpAny_pyIter_tuple (show s1.heap.IsTuple a its.toArray from pl) (pi_one (tk := s1.toks) I1 _ (turn_tuple a _) ⟨_, Heap.get?_push_size _ rfl, rfl, rfl⟩ q)
theorem di_sq (he : DE X B e te) : DI X B tg e (iSq te) := ⟨piI (pi_vSeq he.run) fun σ H R ⟨s, M, P, hs, m, h, w⟩ => liE_then hs m h fun d M1 v H1 q r m1 f s1 => by
  obtain ⟨ds, h0, q⟩ := q
  rcases h0 with rfl | ⟨p, rfl, h0⟩
  · cases r with
    | tup t rs => exact ⟨_, _, rfl, .inr ⟨t.sq, w _ _ q _ _ ((itd_tup t.sq rs).weak fun _ _ => trivial) m1 f⟩⟩
  · cases r
    obtain ⟨vs, t, r⟩ := h0.sq m1
    exact ⟨_, _, rfl, .inl ⟨t, w _ _ q _ _ ((itd_lst).weak fun _ z => z.at) m1 f⟩⟩⟩
theorem di_rg1 (hm : X.mg "range" = none) (he : DE X B e te) (hg : Gl X "range" := by rfl) (hs : starEach [e] X.env = [(false, eval e X.env)] := by rfl) : DI X B tg (.Call (.Name "range" p) [e] [] pos) (iRg1 te) :=
  ⟨piI (pi_range1 hg hm (pa_cons he.run pa_nil hs) hs) fun σ H R ⟨s, M, P, hs, m, h, w⟩ => liE_then hs m h fun d M1 v H1 q r m1 f s1 => by
    obtain ⟨j, rfl, ⟨b1, b2⟩, q⟩ := q
    cases r
    refine ⟨j, rfl, b1, b2, w _ _ q _ _ ?_ m1 f⟩
    have := itd_rng (K := X.K) (H0 := H1) (a := 0) (b := j)
    rw [Int.sub_zero] at this
    exact this⟩
theorem di_rg2 {e' : Expr} (hm : X.mg "range" = none) (he : DE X B e te) (he' : DE X B e' tf) (hg : Gl X "range" := by rfl) (hs : starEach [e, e'] X.env = [(false, eval e X.env), (false, eval e' X.env)] := by rfl) (hs2 : starEach [e'] X.env = [(false, eval e' X.env)] := by rfl) :
    DI X B tg (.Call (.Name "range" p) [e, e'] [] pos) (iRg2 te tf) :=
  ⟨piI (pi_range2 hg hm (pa_cons he.run (pa_cons he'.run pa_nil hs2) (by rw [hs, hs2])) hs hs2) fun σ H R ⟨s, M, P, hs, m, h, w⟩ => liE_then hs m h fun d M1 v H1 q r m1 f s1 => liE_then s1 m1 q fun d2 M2 v2 H2 q2 r2 m2 f2 s2 => by
    obtain ⟨i, j, rfl, rfl, b, q⟩ := q2
    cases r
    cases r2
    exact ⟨i, j, rfl, b, w _ _ q _ _ itd_rng m2 (f.trans f2)⟩⟩
theorem di_rv (hm : X.mg "reversed" = none) (he : DE X B e te) (hg : Gl X "reversed" := by rfl) (hs : starEach [e] X.env = (false, eval e X.env) :: starEach [] X.env := by rfl) : DI X B tg (.Call (.Name "reversed" p) [e] [] pos) (iRv te) :=
  ⟨piI (pi_revA hg hm he.run hs) fun σ H R ⟨s, M, P, hs, m, h, w⟩ => liE_then hs m h fun d M1 v H1 q r m1 f s1 => by
    obtain ⟨ds, h0, q⟩ := q
    rcases h0 with rfl | ⟨p, rfl, h0⟩
    · cases r with
      | tup t rs => exact ⟨_, _, rfl, .inr ⟨t.sq, w _ _ q _ _ ((itd_revT rs.length t.sq rs).weak fun _ _ => trivial) m1 f⟩⟩
    · cases r
      obtain ⟨vs, t, r⟩ := h0.sq m1
      exact ⟨_, _, rfl, .inl ⟨t, w _ _ q _ _ ((itd_revL r.length).weak fun _ z => z.at) m1 f⟩⟩⟩
/-- enumerate of a list or a tuple -/
def vEnum (K : PySem.W.Frag) (ta : TA) : TI := fun σ H R => ta σ H fun vs H1 => ∃ a xs, vs = [.ref a] ∧ ((SqL K H1 a xs ∧ R (IteL K a) H1) ∨ (SqT K H1 a xs ∧ R (IteT K a) H1))
theorem pi_vEnum {ta : TA} {tpos : Pos} {elts : List Expr} {kk : Nat} (hg : Gl X "enumerate") (hm : X.mg "enumerate" = none) (ha : PA X [e] ta) (hs : starEach [e] X.env = [(false, eval e X.env)]) :
    PI X (.Tuple elts kk tpos) (.Call (.Name "enumerate" p) [e] [] pos) (vEnum X.K ta) := by
  refine ⟨fun pins s σ H R I h => Call_ (ld_blt I hg hm boot_enumerate (PyProof.Rows.callWith_type1 (thn (ha.run pos pins s σ H _ I h) fun us s1 ⟨vs, H1, I1, r1, a, xs, q0, q⟩ => ?_) hs rfl))⟩
  subst q0
  obtain ⟨u, rfl, ru⟩ := r1.one
  obtain rfl : u = Value.ref a := ru
  have fp : ∀ b ∈ [s1.heap.objs.size + 1, s1.heap.objs.size], FpOk X pins H1 b := fun b hb => by
    have hle : s1.heap.objs.size ≤ b := by
      simp only [List.mem_cons, List.not_mem_nil, or_false] at hb
      omega
    exact I1.fpOk hle (I1.hok.fresh hle)
  rcases q with ⟨hq, q⟩ | ⟨hq, q⟩
  · obtain ⟨its, _, pl, _⟩ := I1.list hq
    exact call_enumerate_list pl.isList fun h' hen hit _ hk => wpAny_pyIter_enum hen ⟨s1.heap.objs.size + 1, [s1.heap.objs.size + 1, s1.heap.objs.size], _, _, H1, rfl, I1.kept (t' := s1.toks) hk, turn_enumL a (s1.heap.objs.size + 1) s1.heap.objs.size,
      ⟨⟨.none, hen⟩, hit, Nat.succ_ne_self _⟩, fp, q⟩
  · obtain ⟨its, _, pl, _⟩ := I1.tuple hq
    have hal : a < s1.heap.objs.size := by
      obtain ⟨o, ho, _⟩ := id pl
      exact Heap.lt_size ho
    exact call_enumT pl fun h' hen hit hk => wpAny_pyIter_enum hen ⟨s1.heap.objs.size + 1, [s1.heap.objs.size + 1, s1.heap.objs.size], _, _, H1, rfl, I1.kept (t' := s1.toks) hk, turn_enumT a (s1.heap.objs.size + 1) s1.heap.objs.size,
      ⟨⟨.none, hen⟩, hit, Nat.succ_ne_self _, Nat.ne_of_lt hal, Nat.ne_of_gt (Nat.lt_succ_of_lt hal)⟩, fp, q⟩
theorem di_en {tpos : Pos} {elts : List Expr} {kk : Nat} (hm : X.mg "enumerate" = none) (he : DE X B e te) (hg : Gl X "enumerate" := by rfl) (hs : starEach [e] X.env = [(false, eval e X.env)] := by rfl) : DI X B (.Tuple elts kk tpos) (.Call (.Name "enumerate" p) [e] [] pos) (iEn te) :=
  ⟨piI (pi_vEnum hg hm (pa_cons he.run pa_nil hs) hs) fun σ H R ⟨s, M, P, hs, m, h, w⟩ => liE_then hs m h fun d M1 v H1 q r m1 f s1 => by
    obtain ⟨ds, h0, q⟩ := q
    rcases h0 with rfl | ⟨p, rfl, h0⟩
    · cases r with
      | tup t rs => exact ⟨_, _, rfl, .inr ⟨t.sq, w _ _ q _ _ ((itd_enT t.sq rs).weak fun _ _ => trivial) m1 f⟩⟩
    · cases r
      obtain ⟨vs, t, r⟩ := h0.sq m1
      exact ⟨_, _, rfl, .inl ⟨t, w _ _ q _ _ ((itd_enL).weak fun _ z => z.at) m1 f⟩⟩⟩
/-! for -/
theorem ds_for {body : List Stmt} {wi : DTI} {g : DTG} {tb : DTS} (hp : PassesOwn (model X.prog X.w) X.A X.env X.xe) (hi : DI X B tg iter wi) (hg : DG X B tg g) (hb : DSs X B body tb) (hc : X.calm = true := by rfl) (hs : ∀ x, foldedSetIterable iter X.env x = pure x := by intro _; rfl) :
    DS X B (.For tg iter body [] pos) (sFor wi g tb) :=
  ⟨psI (ps_for hp hc hi.run hg.run hb.run hs) fun D σ H ⟨s, M, d, hs, m, h, w⟩ => ⟨s, M, _, hs, m, h, fun J M1 ⟨Pv, ⟨s1, M2, l1, l2, p0⟩, hok, hst, hend⟩ it H1 itd m1 f1 => by
    refine ⟨fun i k σ' H' => k = J.xs.length - i ∧ i ≤ J.xs.length ∧ ∃ s' M', SR X.K H' σ' s' ∧ MB X.K B M' H' ∧ Fr M H M' H' ∧ TS0 H1 H' ∧ Pv i s' M', ⟨_, rfl, Nat.zero_le _, s1, M2, (hs.ts f1.s).lss l1, m1.les l2, f1.les l2, .refl _, p0⟩, ?_⟩
    rintro i k σ' H' ⟨rfl, hi, s', M', hs', m', f', e', pv⟩
    have ok := hok i s' M' hi pv
    by_cases hlt : i < J.xs.length
    · refine .inr ⟨itd.go i M' H' e' m'.m ok hlt, fun σ2 H2 => ∃ s2 M2, SR X.K H2 σ2 s2 ∧ MB X.K B M2 H2 ∧ Fr M H M2 H2 ∧ TS0 H1 H2 ∧ Pv (i + 1) s2 M2, fun σ2 H2 q => ⟨_, by omega, rfl, hlt, q⟩, fun x H2 y => ?_⟩
      obtain ⟨dx, hx, rx, m2, f2⟩ := itd.yld i M' H' x H2 e' m'.m ok hlt y
      refine ⟨dx, s', M', _, rx, hs'.ts f2.s, ⟨m2, m'.b.trans f2⟩, hst i dx s' M' hx pv, fun s3 M3 q3 σ3 H3 r3 m3 f3 => ?_⟩
      have F3 := (f'.trans f2).trans f3
      have E3 := (e'.trans f2.s).trans f3.s
      have nxt : Ws X.K B M3 H3 (Wk (Pv (i + 1))) (fun σ2 H2 => ∃ s2 M2, SR X.K H2 σ2 s2 ∧ MB X.K B M2 H2 ∧ Fr M H M2 H2 ∧ TS0 H1 H2 ∧ Pv (i + 1) s2 M2) := fun s4 M4 ⟨s5, M5, a, b, q⟩ σ4 H4 r4 m4 f4 =>
        ⟨s5, M5, r4.lss a, m4.les b, (F3.trans f4).les b, E3.trans f4.s, q⟩
      exact ⟨s3, M3, _, r3, m3, q3, ⟨nxt, w.rt.go F3, w.nx.go F3, nxt⟩⟩
    · obtain rfl : i = J.xs.length := by omega
      exact .inl ⟨itd.stop M' H' e' m'.m ok, w.nx _ _ (hend s' M' pv) _ _ hs' m' f'⟩⟩⟩
theorem ds_while {c : Expr} {body : List Stmt} {tc : DTT} {tb : DTS} (hp : PassesOwn (model X.prog X.w) X.A X.env X.xe) (ht : DT X B c tc) (hb : DSs X B body tb) : DS X B (.While c body [] pos) (sWhile tc tb) :=
  ⟨psI (ps_while hp ht.run hb.run) fun D σ H ⟨s, M, d, hs, m, ⟨Pv, n, ⟨s1, M2, l1, l2, p0⟩, hst⟩, w⟩ => by
    refine ⟨fun k σ' H' => ∃ s' M', SR X.K H' σ' s' ∧ MB X.K B M' H' ∧ Fr M H M' H' ∧ Pv k s' M', ⟨n, s1, M2, hs.lss l1, m.les l2, (Fr.refl M H).les l2, p0⟩, ?_⟩
    rintro k σ' H' ⟨s', M', hs', m', f', pv⟩
    refine liT_then hs' m' (hst k s' M' pv) fun b M3 H3 q m3 f3 s3 => ifB_ite ?_
    have F3 := f'.trans f3
    cases b with
    | false => exact w.nx _ _ q _ _ s3 m3 F3
    | true =>
      refine ⟨fun σ2 H2 => ∃ j s2 M2, j < k ∧ SR X.K H2 σ2 s2 ∧ MB X.K B M2 H2 ∧ Fr M H M2 H2 ∧ Pv j s2 M2, fun σ2 H2 ⟨j, s2, M2, a, b⟩ => ⟨j, a, s2, M2, b⟩, s', M3, _, s3, m3, q, ?_⟩
      have nxt : Ws X.K B M3 H3 (Wk fun s' M' => ∃ m, m < k ∧ Pv m s' M') (fun σ2 H2 => ∃ j s2 M2, j < k ∧ SR X.K H2 σ2 s2 ∧ MB X.K B M2 H2 ∧ Fr M H M2 H2 ∧ Pv j s2 M2) := fun s4 M4 ⟨s5, M5, a, b, j, hj, q⟩ σ4 H4 r4 m4 f4 =>
        ⟨j, s5, M5, hj, r4.lss a, m4.les b, (F3.trans f4).les b, q⟩
      exact ⟨nxt, w.rt.go F3, w.nx.go F3, nxt⟩⟩
end
end DL
set_option linter.all false
/-! comprehensions -/
namespace DL
open PySem PySem.Spec PyProof.Rows L2
def wipeD (s : DSt) : List Nat → DSt
  | [] => s
  | v :: vs => (wipeD s vs).set v none
theorem SR.wipes {K : PySem.W.Frag} {H : Hp} {σ : VS} {s : DSt} (h : SR K H σ s) : ∀ vs : List Nat, SR K H (wipe σ vs) (wipeD s vs)
  | [] => h
  | v :: vs => (h.wipes vs).noneAt
/-- a target of a comprehension: names of its own -/
def CtOk (K : PySem.W.Frag) (tv : TG) (g : DTG) (vs : List Nat) : Prop := ∀ (v : V) (d : D) (σ : VS) (H : Hp) (s : DSt) (M : DHp) (P : DSt → DHp → Prop) (Q : VS → Hp → Prop), DR K H v d → SR K H σ s → MR K M H → g d s M P →
  (∀ σ' s', P s' M → SR K H σ' s' → wipe σ' vs = wipe σ vs → Q σ' H) → tv v σ H Q
def CtOks (K : PySem.W.Frag) (tv : TGs) (g : DTGs) (vs : List Nat) : Prop := ∀ (v : List V) (d : List D) (σ : VS) (H : Hp) (s : DSt) (M : DHp) (P : DSt → DHp → Prop) (Q : VS → Hp → Prop), DRs K H v d → SR K H σ s → MR K M H → g d s M P →
  (∀ σ' s', P s' M → SR K H σ' s' → wipe σ' vs = wipe σ vs → Q σ' H) → tv v σ H Q
theorem wipe_get (σ : VS) : ∀ (vs : List Nat) (j : Nat), (wipe σ vs)[j]? = if j ∈ vs then (if j < σ.length then some none else none) else σ[j]?
  | [], j => by simp [wipe]
  | v :: vs, j => by
    unfold wipe
    rw [List.getElem?_set]
    by_cases h : v = j
    · subst h
      simp [wipe_length]
    · rw [if_neg h, wipe_get σ vs j]
      by_cases h2 : j ∈ vs
      · simp [h2]
      · simp [h2, Ne.symm h]
theorem wipe_set {σ : VS} {i : Nat} {x : Option V} {vs : List Nat} (h : i ∈ vs) : wipe (σ.set i x) vs = wipe σ vs := by
  refine List.ext_getElem? fun j => ?_
  rw [wipe_get, wipe_get, List.length_set]
  by_cases hj : j ∈ vs
  · rw [if_pos hj, if_pos hj]
  · rw [if_neg hj, if_neg hj]
    exact List.getElem?_set_ne fun e => by subst e; exact hj h
theorem ct_name {K : PySem.W.Frag} (i : Nat) {vs : List Nat} (h : i ∈ vs := by decide) : CtOk K (gName i) (gNm i) vs := fun v d σ H s M P Q r rs m p q => q _ _ p (SR.set r rs) (wipe_set h)
theorem ct_nil {K : PySem.W.Frag} {vs : List Nat} : CtOks K gNil gNl vs := fun v d σ H s M P Q r rs m p q => by
  cases r with
  | nil => exact ⟨rfl, q _ _ p rs rfl⟩
  | cons _ _ => exact p.elim
theorem ct_cons {K : PySem.W.Frag} {t : TG} {u : TGs} {g : DTG} {gs : DTGs} {vs : List Nat} (h1 : CtOk K t g vs) (h2 : CtOks K u gs vs) : CtOks K (gCons t u) (gCo g gs) vs := fun v d σ H s M P Q r rs m p q => by
  cases r with
  | nil => exact p.elim
  | cons r1 r2 => exact ⟨_, _, rfl, h1 _ _ _ _ _ _ _ _ r1 rs m p fun σ1 s1 p1 rs1 e1 => h2 _ _ _ _ _ _ _ _ r2 rs1 m p1 fun σ2 s2 p2 rs2 e2 => q _ _ p2 rs2 (e2.trans e1)⟩
def gTL (K : PySem.W.Frag) (n : Nat) (t : TGs) : TG := fun v σ H Q => gTup K n t v σ H Q ∨ gLst K n t v σ H Q
theorem pg_TL {X : Cx} {es : List Expr} {k n : Nat} {pos : Pos} {t : TGs} (hc : X.calm = true) (h : PGs X es t) (hn : (assignEach es X.env).length = n := by rfl) (hst : (assignEach es X.env).findIdx? (·.1) = none := by rfl) : PG X (.Tuple es k pos) (gTL X.K n t) := pgOr (pg_tup hc h hn hst) (pg_lst hc h hn hst)
theorem ct_tup {K : PySem.W.Frag} {t : TGs} {gs : DTGs} {vs : List Nat} {n : Nat} (h : CtOks K t gs vs) : CtOk K (gTL K n t) (gTp n gs) vs := fun v d σ H s M P Q r rs m p q => by
  cases r with
  | tup t rl => exact .inl ⟨_, _, rfl, t.sq, rl.length.trans p.1, h _ _ _ _ _ _ _ _ rl rs m p.2 q⟩
  | ref a =>
    obtain ⟨ds, h1, h2, h3⟩ := p
    obtain ⟨vs', t, r⟩ := listOf (K := K) (B := ⟨M, H⟩) ⟨m, .refl _ _⟩ h1
    exact .inr ⟨_, _, rfl, t, r.length.trans h2, h _ _ _ _ _ _ _ _ r rs m h3 q⟩
  | _ => exact p.elim
structure DTs (X : Cx) (B : Bs) (ifs : List Expr) (t : DTT) : Prop where
  run : PTs X ifs (liT X.K B t)
def tYesD : DTT := fun _ M Q => Q true M
theorem dts_nil {X : Cx} {B : Bs} : DTs X B [] tYesD := ⟨⟨fun pins s σ H Q I ⟨s0, M, P, hs, m, h, w⟩ => pts_nil.run pins s σ H Q I (w _ _ h _ m (.refl _ _))⟩⟩
theorem dts_one {X : Cx} {B : Bs} {c : Expr} {t : DTT} (h : DT X B c t) : DTs X B [c] t := ⟨pts_one h.run⟩
/-- what a comprehension over some walk gives -/
def dLc (wi : DTI) (g : DTG) (tt : DTT) (te : DTE) (own : List Nat) : DTE := fun s M Q => wi s M fun J M1 => ∃ Pv : Nat → List D → DHp → Prop, (∃ M2, Les M2 M1 ∧ Pv 0 [] M2) ∧ (∀ i acc M, i ≤ J.xs.length → Pv i acc M → J.ok M) ∧
  (∀ i x acc M, J.xs[i]? = some x → Pv i acc M → g x (wipeD s own) M fun s2 M2 => tt s2 M2 fun b M3 =>
    ifB b (te s2 M3 fun y M4 => acc.length < sizeLine ∧ ∃ M5, Les M5 M4 ∧ Pv (i + 1) (acc ++ [y]) M5) (∃ M5, Les M5 M3 ∧ Pv (i + 1) acc M5)) ∧ ∀ acc M, Pv J.xs.length acc M → ∀ p, M p = none → Q (.ref p) (upM M p (.lst acc))
section
variable {X : Cx} {B : Bs} {elt tg iter : Expr} {ifs : List Expr} {scope : Scope} {own : List (Str × Nat)} {pos : Pos} {wi : DTI} {tv : TG} {g : DTG} {tt : DTT} {te : DTE}
theorem lc_imp {σ : VS} {H : Hp} {Q : VK} (hct : CtOk X.K tv g (own.map (·.2))) (h : liE X.K B (dLc wi g tt te (own.map (·.2))) σ H Q) : tLc (liI X.K B wi) tv (liT X.K B tt) (liE X.K B te) (own.map (·.2)) σ H Q := by
  obtain ⟨s, M, P, hs, m, h, w⟩ := h
  refine ⟨s, M, _, hs, m, h, fun J M1 ⟨Pv, ⟨M2, l2, p0⟩, hok, hst, hend⟩ it H1 itd m1 f1 L0 hD => ?_⟩
  have hMD : M1 L0 = none := m1.free hD
  obtain ⟨m1', f1'⟩ := m1.hid (o := .lst []) hD
  refine ⟨fun i k H' => k = J.xs.length - i ∧ i ≤ J.xs.length ∧ ∃ (acc : List D) (vs : List V) (M' : DHp), H' L0 = some (.lst vs) ∧ DRs X.K H' vs acc ∧ M' L0 = none ∧ MB X.K B M' H' ∧ Fr M H M' H' ∧ TS0 H1 H' ∧ Pv i acc M',
    ⟨_, rfl, Nat.zero_le _, [], [], M2, upd_same, .nil, l2.free hMD, m1'.les l2, (f1.trans f1').les l2, f1'.s, p0⟩, ?_⟩
  rintro i k H' ⟨rfl, hi, acc, vs, M', hD', ra, nD, m', f', e', pv⟩
  have ok := hok i acc M' hi pv
  by_cases hlt : i < J.xs.length
  · refine .inr ⟨itd.go i M' H' e' m'.m ok hlt, fun H2 => ∃ (acc : List D) (vs : List V) (M2 : DHp), H2 L0 = some (.lst vs) ∧ DRs X.K H2 vs acc ∧ M2 L0 = none ∧ MB X.K B M2 H2 ∧ Fr M H M2 H2 ∧ TS0 H1 H2 ∧ Pv (i + 1) acc M2, fun H2 q => ⟨_, by omega, rfl, hlt, q⟩, fun x H2 y => ?_⟩
    obtain ⟨dx, hx, rx, m2, f2⟩ := itd.yld i M' H' x H2 e' m'.m ok hlt y
    have F2 := f'.trans f2
    obtain ⟨hD2, nD2⟩ := f2.k L0 _ hD' nD
    refine hct x dx _ H2 _ M' _ _ rx ((hs.ts F2.s).wipes _) m2 (hst i dx acc M' hx pv) fun σ3 s3 q3 r3 wp => ⟨?_, ?_⟩
    · rw [wp]
      refine List.ext_getElem? fun j => ?_
      rw [wipe_get, wipe_get, wipe_length]
      by_cases hj : j ∈ own.map (·.2)
      · rw [if_pos hj, if_pos hj]
      · rw [if_neg hj, if_neg hj]
    · refine liT_then r3 ⟨m2, m'.b.trans f2⟩ q3 fun b M3 H3 q m3 f3 s4 => ifB_ite ?_
      obtain ⟨hD3, nD3⟩ := f3.k L0 _ hD2 nD2
      cases b with
      | false =>
        obtain ⟨M5, l5, q⟩ := q
        exact ⟨acc, vs, M5, hD3, (ra.ts f2.s).ts f3.s, l5.free nD3, m3.les l5, (F2.trans f3).les l5, (e'.trans f2.s).trans f3.s, q⟩
      | true =>
        refine liE_then s4 m3 q fun y M4 v H4 q4 r4 m4 f4 s5 => ?_
        obtain ⟨hD4, nD4⟩ := f4.k L0 _ hD3 nD3
        obtain ⟨hz, M5, l5, q5⟩ := q4
        have ra4 := ((ra.ts f2.s).ts f3.s).ts f4.s
        refine ⟨vs, hD4, by rw [ra4.length]; exact hz, ?_⟩
        have t : TS0 H4 (upd H4 L0 (.lst (vs ++ [v]))) := ts_put hD4
        have mm : MR X.K M4 (upd H4 L0 (.lst (vs ++ [v]))) := fun a o z => (m4.m a o z).ts t (upd_ne fun e => by subst e; rw [nD4] at z; cases z)
        have F5 : Fr M H M4 (upd H4 L0 (.lst (vs ++ [v]))) := by
          have F4 := (F2.trans f3).trans f4
          refine ⟨F4.s.trans t, fun a o z n => ?_⟩
          obtain ⟨z1, z2⟩ := F4.k a o z n
          refine ⟨?_, z2⟩
          rw [upd_ne]
          · exact z1
          · intro e
            subst e
            obtain ⟨z3, _⟩ := f1.k _ _ z n
            rw [hD] at z3
            cases z3
        have B5 : Fr B.M B.H M4 (upd H4 L0 (.lst (vs ++ [v]))) := by
          refine ⟨m4.b.s.trans t, fun a o z n => ?_⟩
          obtain ⟨z1, z2⟩ := m4.b.k a o z n
          refine ⟨?_, z2⟩
          rw [upd_ne]
          · exact z1
          · intro e
            subst e
            obtain ⟨z3, _⟩ := m1.b.k _ _ z n
            rw [hD] at z3
            cases z3
        exact ⟨acc ++ [y], vs ++ [v], M5, upd_same, (ra4.ts t).app (.one (r4.ts t)), l5.free nD4, ⟨fun a o z => mm a o (l5 a o z), B5.les l5⟩, F5.les l5, ((((e'.trans f2.s).trans f3.s).trans f4.s).trans t), q5⟩
  · obtain rfl : i = J.xs.length := by omega
    refine .inl ⟨itd.stop M' H' e' m'.m ok, ?_⟩
    have q := hend acc M' pv L0 nD
    refine w _ _ q _ _ (.ref L0) ⟨fun a o z => ?_, ?_⟩ ?_
    · by_cases ha : a = L0
      · subst ha
        rw [upM_same] at z
        cases z
        exact ⟨vs, hD', ra⟩
      · rw [upM_ne ha] at z
        exact m'.m a o z
    · refine ⟨m'.b.s, fun a o z n => ?_⟩
      obtain ⟨z1, z2⟩ := m'.b.k a o z n
      refine ⟨z1, ?_⟩
      rw [upM_ne]
      · exact z2
      · intro e
        subst e
        obtain ⟨z3, _⟩ := m1.b.k _ _ z n
        rw [hD] at z3
        cases z3
    · refine ⟨f'.s, fun a o z n => ?_⟩
      obtain ⟨z1, z2⟩ := f'.k a o z n
      refine ⟨z1, ?_⟩
      rw [upM_ne]
      · exact z2
      · intro e
        subst e
        obtain ⟨z3, _⟩ := f1.k _ _ z n
        rw [hD] at z3
        cases z3
theorem de_lc (hN : X.N.Nodup) (hi : DI X B tg iter wi) (ok : BlkOk X.N X.env.scope scope own) (hct : CtOk X.K tv g (own.map (·.2)))
    (hg : ∀ (s : Shared) (H : Hp) (C : Addr) (cl : List (Str × Addr)) (fp : List Addr), PG (X.blk s H scope (compEnvC scope cl C X.env) fp) tg tv) (ht : ∀ (s : Shared) (H : Hp) (C : Addr) (cl : List (Str × Addr)) (fp : List Addr), DTs (X.blk s H scope (compEnvC scope cl C X.env) fp) B ifs tt)
    (he : ∀ (s : Shared) (H : Hp) (C : Addr) (cl : List (Str × Addr)) (fp : List Addr), DE (X.blk s H scope (compEnvC scope cl C X.env) fp) B elt te) (hc : X.calm = true := by rfl) (hs : ∀ x, foldedSetIterable iter X.env x = pure x := by intro _; rfl) :
    DE X B (.ListComp elt [⟨tg, iter, ifs, 0⟩] scope pos) (dLc wi g tt te (own.map (·.2))) :=
  ⟨peI (pe_lc hc hN hi.run ok hg (fun s H C cl fp => (ht s H C cl fp).run) (fun s H C cl fp => (he s H C cl fp).run) hs) fun σ H Q h => lc_imp hct h⟩
theorem ds_setLc (i : Nat) {y : Str} {py spos : Pos} (hN : X.N.Nodup) (hi : DI X B tg iter wi) (ok : BlkOk X.N X.env.scope scope own) (hct : CtOk X.K tv g (own.map (·.2)))
    (hg : ∀ (s : Shared) (H : Hp) (C : Addr) (cl : List (Str × Addr)) (fp : List Addr), PG (X.blk s H scope (compEnvC scope cl C X.env) fp) tg tv) (ht : ∀ (s : Shared) (H : Hp) (C : Addr) (cl : List (Str × Addr)) (fp : List Addr), DTs (X.blk s H scope (compEnvC scope cl C X.env) fp) B ifs tt)
    (he : ∀ (s : Shared) (H : Hp) (C : Addr) (cl : List (Str × Addr)) (fp : List Addr), DE (X.blk s H scope (compEnvC scope cl C X.env) fp) B elt te)
    (hsw : swapsWith (.ListComp elt [⟨tg, iter, ifs, 0⟩] scope pos) (some (.Name y py)) spos.line X.env = pure true := by exact sw_true rfl rfl rfl (by decide +kernel))
    (hy : X.N[i]? = some y := by rfl) (hyl : X.env.scope.names.lookup y = some .local := by rfl) (hc : X.calm = true := by rfl) (hs : ∀ x, foldedSetIterable iter X.env x = pure x := by intro _; rfl) :
    DS X B (.Assign [.Name y py] (.ListComp elt [⟨tg, iter, ifs, 0⟩] scope pos) spos) (sAsg (dLc wi g tt te (own.map (·.2))) (gNm i)) :=
  ⟨psI (ps_setLc hc hN hy hyl hsw hi.run ok hg (fun s H C cl fp => (ht s H C cl fp).run) (fun s H C cl fp => (he s H C cl fp).run) hs) fun D σ H ⟨s, M, d, hs, m, h, w⟩ => lc_imp hct (liE_then hs m h fun x M1 v H1 p r m1 f s1 => w.nx _ _ p _ _ (SR.set r s1) m1 f)⟩
end
end DL
set_option linter.all false
/-! raise, try -/
namespace DL
open PySem PySem.Spec PyProof.Rows L2
/-- an own exception's __init__ that keeps its argument -/
def spI (K : PySem.W.Frag) (f : Str) : Sp := fun vs H Q _ => ∃ (a C : Addr) (v : V), vs = [.ref a, v] ∧ Err.Oex K C ∧ PySem.W.findIn K (.ref C) f = some none ∧ H a = some (exo a C none) ∧
  ∀ dx, H dx = none → dx ≠ a → Q .non (upd (upd H dx (exd dx [(f, v)])) a (exo a C (some dx)))
/-- an own exception class with one field -/
structure ExK (P₀ : Program) (w : World) (K : PySem.W.Frag) (mg : Str → Option Value) (base : Heap) (x : Str) (C : Addr) (f : Str) : Prop where
  g : mg x = some (.ref C)
  T : Err.Oex K C
  nof : PySem.W.findIn K (.ref C) f = some none
  ini : ∃ (fI : Addr) (fd : FuncData), PySem.W.findIn K (.ref C) "__init__" = some (some (.ref fI)) ∧ PySem.W.typeIn K (.ref fI) = some (.type "function") ∧ FnOk P₀ w K mg base CX0 1 fI fd ["self", f] (spI K f) ∧ Binds K fd ["self", f] []
  X : XfC K C
theorem exc_heap {H : Hp} {a dx C : Addr} {fs gs : List (Str × V)} (ha : H a = none) (hn : dx ≠ a) :
    upd (del (upd (upd (upd H a (exo a C none)) dx (exd dx fs)) a (exo a C (some dx))) a) dx (.xd gs) = upd H dx (.xd gs) := by
  funext b
  by_cases hb : b = dx
  · rw [hb, upd_same, upd_same]
  · rw [upd_ne hb, upd_ne hb]
    by_cases ha2 : b = a
    · rw [ha2, ha]
      simp [del]
    · have : del (upd (upd (upd H a (exo a C none)) dx (exd dx fs)) a (exo a C (some dx))) a b = (upd (upd (upd H a (exo a C none)) dx (exd dx fs)) a (exo a C (some dx))) b := by simp [del, ha2]
      rw [this, upd_ne ha2, upd_ne hb, upd_ne ha2]
def sRaise (W : DWX) (C : Addr) (f : Str) (t : DTA) : DTS := fun _ s M => t s M fun ds M1 => match ds with
  | [d] => W ⟨C, [(f, d)]⟩ s M1
  | _ => False
section
variable {X : Cx} {B : Bs} {W : DWX} {x : Str} {C : Addr} {f : Str} {e : Expr} {u : DTA} {p pos : Pos}
theorem ds_raise (T : ExK X.prog X.w X.K X.mg X.base x C f) (hr : Room 2 X.A) (tk : DTk X B W) (ha : DA X B [e] u) (hc : X.calm = true := by rfl) (hg : Gl X x := by rfl) (hdb : (x == ("__debug__" : Str)) = false := by decide)
    (he : starEach [e] X.env = (false, eval e X.env) :: starEach [] X.env := by rfl) (hpl : (backTo pos (starEach [] X.env)).any (·.1) = false := by rfl) : DS X B (.Raise (some (.Call (.Name x p) [e] [] pos)) none pos') (sRaise W C f u) := by
  obtain ⟨fI, fd, h1, h2, G, hb⟩ := T.ini
  refine ⟨psI (ps_raise hc tk (Err.pmk_ex T.T h1 h2 G hr hb .nil pass0 hg T.g ha.run hdb he hpl)) fun D σ H ⟨s, M, d, hs, hm, h, w⟩ => liA_then hs hm h fun ds M1 vs H1 p r m f1 s1 => ?_⟩
  match ds, r, p with
  | [d], .cons (v := v) r1 .nil, p =>
    refine ⟨by simp, fun y hy => ⟨y, C, v, rfl, T.T, T.nof, upd_same, fun dx hdx hne => ⟨rfl, dx, [(f, v)], upd_same, ?_, ?_, ?_⟩⟩⟩
    · rw [upd_ne hne, upd_same]
    · rw [upd_ne hne] at hdx
      exact hdx
    · rw [upd_ne hne] at hdx
      rw [exc_heap hy hne]
      obtain ⟨m2, f2⟩ := m.hid (o := .xd [(f, v)]) hdx
      exact ⟨s, M1, _, s1.ts f2.s, m2, ⟨rfl, dx, _, rfl, upd_same, m.free hdx, .cons ⟨rfl, r1.ts f2.s⟩ .nil, m.b.s.d _ hdx⟩, p⟩
end
/-! try -/
/-- what a handler of C wants: the exception's place a, its dict's place, what it keeps -/
def wTry (K : PySem.W.Frag) (C : Addr) (Pc : Addr → Prop) (ts : Addr → Addr → XD → DTS) (W : DWX) (d : DEn) : DWX := fun x s M => ∃ b, PySem.W.exmOne K (.ref x.cls) (.ref C) = some b ∧ ifB b (Pc x.cls ∧ ∀ a dd, M dd = none → ts a dd x d s (upM M dd (.xd x.fs))) (W x s M)
def wTryAs (K : PySem.W.Frag) (C : Addr) (Pc : Addr → Prop) (i : Nat) (ts : Addr → Addr → XD → DTS) (W : DWX) (d : DEn) : DWX := fun x s M => ∃ b, PySem.W.exmOne K (.ref x.cls) (.ref C) = some b ∧
  ifB b (Pc x.cls ∧ ∀ a dd, M dd = none → ts a dd x { nx := fun s M => d.nx (s.set i none) M, rt := d.rt, bk := fun s M => d.bk (s.set i none) M, ct := fun s M => d.ct (s.set i none) M } (s.set i (some (.ref a))) (upM M dd (.xd x.fs))) (W x s M)
def sTry (K : PySem.W.Frag) (C : Addr) (Pc : Addr → Prop) (tb : DWX → DTS) (ts : Addr → Addr → XD → DTS) (W : DWX) : DTS := fun d s M => tb (wTry K C Pc ts W d) d s M
def sTryAs (K : PySem.W.Frag) (C : Addr) (Pc : Addr → Prop) (i : Nat) (tb : DWX → DTS) (ts : Addr → Addr → XD → DTS) (W : DWX) : DTS := fun d s M => tb (wTryAs K C Pc i ts W d) d s M
/-- in the suite of a handler: what the exception keeps is told -/
theorem suite_M {K : PySem.W.Frag} {B : Bs} {M0 M : DHp} {H0 H : Hp} {c : Value} {dx : Option Addr} {x : XD} (m0 : MB K B M0 H0) (m : MB K ⟨M0, H0⟩ M H) (r : XR K H0 M H c dx x) :
    ∃ dd, dx = some dd ∧ c = .ref x.cls ∧ M dd = none ∧ MB K B (upM M dd (.xd x.fs)) H ∧ Fr M0 H0 (upM M dd (.xd x.fs)) H := by
  obtain ⟨dd, fv, e1, e2, e3, e4, e5⟩ := r.d
  have f : Fr M0 H0 (upM M dd (.xd x.fs)) H := ⟨m.b.s, fun a o q n => by
    obtain ⟨h1, h2⟩ := m.b.k a o q n
    have h : a ≠ dd := fun z => by subst z; rw [e5] at q; cases q
    rw [upM_ne h]
    exact ⟨h1, h2⟩⟩
  refine ⟨dd, e1, r.c, e3, ⟨fun a o q => ?_, m0.b.trans f⟩, f⟩
  by_cases h : a = dd
  · subst h
    rw [upM_same] at q
    cases q
    exact ⟨fv, e2, e4⟩
  · rw [upM_ne h] at q
    exact m.m a o q
section
variable {X : Cx} {B : Bs} {W : DWX} {x : Str} {C : Addr} {np pos pos' : Pos} {b₀ : Stmt} {suite body : List Stmt} {tb : DWX → DTS} {ts : Addr → Addr → XD → DTS}
/-- the suite's reading, below -/
def vSuite (K : PySem.W.Frag) (B : Bs) (Pc : Addr → Prop) (ts : Addr → Addr → XD → DTS) (a : Addr) (cls : Value) (dx : Option Addr) : TS := fun D σ H => ∃ (x : XD) (dd : Addr), Pc x.cls ∧ cls = .ref x.cls ∧ dx = some dd ∧ liSt K B (ts a dd x) D σ H
def vBody (K : PySem.W.Frag) (tb : DWX → DTS) (W : WX) : TS := fun D σ H => ∃ WD B, (∀ c dx σ' H', liX K B WD c dx σ' H' → W c dx σ' H') ∧ liSt K B (tb WD) D σ H
theorem pss_vBody {X' : Cx} {Wv : WX} (hb : ∀ WD B, DTk X' B WD → DSs X' B body (tb WD)) (tk : Takes X' Wv) : PSs X' body (vBody X'.K tb Wv) := ⟨fun pins s σ H D I ⟨WD, B, imp, h⟩ => (hb WD B (tk.imp imp)).run.run pins s σ H D I h⟩
theorem liX.imp {K : PySem.W.Frag} {B : Bs} {M : DHp} {H : Hp} {W : DWX} {c : Value} {dx : Option Addr} {x : XD} {σ' : VS} {s' : DSt} {M' : DHp} {H' : Hp} (m : MB K B M H) (hs : SR K H' σ' s') (m' : MB K ⟨M, H⟩ M' H') (r : XR K H M' H' c dx x) (q : W x s' M') : liX K B W c dx σ' H' :=
  ⟨s', M', x, hs, ⟨m'.m, m.b.trans m'.b⟩, r.old m.b.s, q⟩
theorem We.of {K : PySem.W.Frag} {B : Bs} {M : DHp} {H : Hp} {d : DEn} {D : Ends} (m : MB K B M H) (w : We K B M H d D) : We K ⟨M, H⟩ M H d D :=
  ⟨fun s' M' p σ' H' r m' f => w.nx _ _ p _ _ r ⟨m'.m, m.b.trans f⟩ f, fun d M' p v H' r m' f => w.rt _ _ p _ _ r ⟨m'.m, m.b.trans f⟩ f, fun s' M' p σ' H' r m' f => w.bk _ _ p _ _ r ⟨m'.m, m.b.trans f⟩ f, fun s' M' p σ' H' r m' f => w.ct _ _ p _ _ r ⟨m'.m, m.b.trans f⟩ f⟩
theorem ds_try (Pc : Addr → Prop) (hs : X.stack = X.env :: X.outer) (hf : X.env.frame = some X.env.locals) (hc : Names X x (.ref C)) (tk : DTk X B W)
    (hb : ∀ (pn : List (Addr × Obj)) (xe : Value → Shared → Prop) (WD : DWX) (B : Bs), DTk (X.tr pn xe) B WD → PassesOwn (model X.prog X.w) X.A X.env xe → DSs (X.tr pn xe) B body (tb WD))
    (hsu : ∀ (a : Addr) (oe : Obj) (dd : Addr) (pn : List (Addr × Obj)) (y : XD), Pc y.cls → Zc (.ref y.cls) (some dd) oe → (∃ vs, oe.data = .fields vs) → DSs (X.suite a ((a, oe) :: pn)) B (b₀ :: suite) (ts a dd y)) :
    DS X B (.Try body [.ExceptHandler (some (.Name x np)) none (b₀ :: suite) pos'] [] [] pos) (sTry X.K C Pc tb ts W) := by
  refine ⟨psI (ps_try_only (tb := vBody X.K tb) (ts := vSuite X.K B Pc ts) hs hf hc tk (fun Wv pn xe tk' pass => pss_vBody (X' := X.tr pn xe) (fun WD B' tkd => hb pn xe WD B' tkd pass) tk') fun a oe cls dx pn hz hfl => ?_) fun D σ H ⟨s, M, d, h1, m, h, w⟩ => ?_⟩
  · refine ⟨fun pins s σ H D I ⟨y, dd, hp, e1, e2, h⟩ => ?_⟩
    subst e1 e2
    exact (hsu a oe dd pn y hp hz hfl).run.run pins s σ H D I h
  · refine ⟨wTry X.K C Pc ts W d, ⟨M, H⟩, fun c dx σ' H' ⟨s', M', y, hs', m', r, b, hb1, q⟩ => ?_, s, M, d, h1, ⟨m.m, .refl _ _⟩, h, w.of m⟩
    rw [← r.c] at hb1
    refine ⟨b, hb1, fun e a ha => ?_, fun e => ?_⟩
    · subst e
      obtain ⟨dd, e1, e2, e3, m2, f2⟩ := suite_M m m' r
      exact ⟨y, dd, q.1, e2, e1, s', _, d, hs', m2, q.2 a dd e3, w.go f2⟩
    · subst e
      exact liX.imp m hs' m' r q
theorem ds_tryAs (Pc : Addr → Prop) (i : Nat) {n : Str} (hN : X.N.Nodup) (hs : X.stack = X.env :: X.outer) (hf : X.env.frame = some X.env.locals) (hc : Names X x (.ref C)) (tk : DTk X B W)
    (hb : ∀ (pn : List (Addr × Obj)) (xe : Value → Shared → Prop) (WD : DWX) (B : Bs), DTk (X.tr pn xe) B WD → PassesOwn (model X.prog X.w) X.A X.env xe → DSs (X.tr pn xe) B body (tb WD))
    (hsu : ∀ (a : Addr) (oe : Obj) (dd : Addr) (pn : List (Addr × Obj)) (y : XD), Pc y.cls → Zc (.ref y.cls) (some dd) oe → (∃ vs, oe.data = .fields vs) → DSs (X.suite a ((a, oe) :: pn)) B (b₀ :: suite) (ts a dd y))
    (hi : X.N[i]? = some n := by rfl) (hln : X.env.kindOf n = some .local := by rfl) :
    DS X B (.Try body [.ExceptHandler (some (.Name x np)) (some n) (b₀ :: suite) pos'] [] [] pos) (sTryAs X.K C Pc i tb ts W) := by
  refine ⟨psI (ps_try_as (i := i) (tb := vBody X.K tb) (ts := vSuite X.K B Pc ts) hs hf hN hi hln hc tk (fun Wv pn xe tk' pass => pss_vBody (X' := X.tr pn xe) (fun WD B' tkd => hb pn xe WD B' tkd pass) tk') fun a oe cls dx pn hz hfl => ?_) fun D σ H ⟨s, M, d, h1, m, h, w⟩ => ?_⟩
  · refine ⟨fun pins s σ H D I ⟨y, dd, hp, e1, e2, h⟩ => ?_⟩
    subst e1 e2
    exact (hsu a oe dd pn y hp hz hfl).run.run pins s σ H D I h
  · refine ⟨wTryAs X.K C Pc i ts W d, ⟨M, H⟩, fun c dx σ' H' ⟨s', M', y, hs', m', r, b, hb1, q⟩ => ?_, s, M, d, h1, ⟨m.m, .refl _ _⟩, h, w.of m⟩
    rw [← r.c] at hb1
    refine ⟨b, hb1, fun e a ha => ?_, fun e => ?_⟩
    · subst e
      obtain ⟨dd, e1, e2, e3, m2, f2⟩ := suite_M m m' r
      have w2 := w.go f2
      exact ⟨y, dd, q.1, e2, e1, _, _, _, SR.set (.ref a) hs', m2, q.2 a dd e3, ⟨fun s4 M4 p σ4 H4 r4 m4 f4 => w2.nx _ _ p _ _ r4.noneAt m4 f4, w2.rt, fun s4 M4 p σ4 H4 r4 m4 f4 => w2.bk _ _ p _ _ r4.noneAt m4 f4, fun s4 M4 p σ4 H4 r4 m4 f4 => w2.ct _ _ p _ _ r4.noneAt m4 f4⟩⟩
    · subst e
      exact liX.imp m hs' m' r q
/-- e.f, e the exception -/
def dXf (a dd : Addr) (f : Str) (t : DTE) : DTE := fun s M Q => t s M fun d M1 => ∃ fs v, d = .ref a ∧ M1 dd = some (.xd fs) ∧ fs.lookup f = some v ∧ Q v M1
theorem lookupF {K : PySem.W.Frag} {H : Hp} {fv : List (Str × V)} {fs : List (Str × D)} {f : Str} {d : D} (r : DFs K H fv fs) (h : fs.lookup f = some d) : ∃ v, fv.lookup f = some v ∧ DR K H v d := by
  induction r with
  | nil => cases h
  | @cons p q l l' r t ih =>
    obtain ⟨x, v⟩ := p
    obtain ⟨y, e⟩ := q
    obtain ⟨r1, r2⟩ := r
    simp only at r1 r2
    subst r1
    rw [List.lookup_cons] at h ⊢
    cases b : f == x with
    | true =>
      rw [b] at h
      cases h
      exact ⟨v, rfl, r2⟩
    | false =>
      rw [b] at h
      exact ih h
theorem de_xf {a : Addr} {oe : Obj} {dd : Addr} {pn : List (Addr × Obj)} {y : XD} {e : Expr} {te : DTE} {f : Str} (T : XfC X.K y.cls) (hno : PySem.W.findIn X.K (.ref y.cls) f = some none) (hz : Zc (.ref y.cls) (some dd) oe) (hf : ∃ vs, oe.data = .fields vs)
    (he : DE (X.suite a ((a, oe) :: pn)) B e te) (hb : attributeBase e f X.env (eval e X.env) = eval e X.env := by rfl) : DE (X.suite a ((a, oe) :: pn)) B (.Attribute e f pos) (dXf a dd f te) :=
  ⟨peI (pe_xf T hno hz hf he.run hb) fun σ H Q ⟨s, M, P, hs, m, h, w⟩ => liE_then hs m h fun d M1 v H1 q r m1 f1 s1 => by
    obtain ⟨fs, u, rfl, h1, h2, q⟩ := q
    cases r
    obtain ⟨fv, g1, g2⟩ := m1.m _ _ h1
    obtain ⟨v, l1, l2⟩ := lookupF g2 h2
    exact ⟨rfl, rfl, dd, fv, v, rfl, g1, l1, w _ _ q _ _ l2 m1 f1⟩⟩
end
end DL
set_option linter.all false
/-! own classes -/
namespace DL
open PySem PySem.Spec PyProof.Rows L2
open StX (CallO InsC insC_at callO_with)
open SlX (cmpback)
def putD (f : Str) (v : D) : List (Str × D) → List (Str × D)
  | [] => [(f, v)]
  | (g, u) :: r => if g = f then (f, v) :: r else (g, u) :: putD f v r
/-- a class of the program: what its instances must have -/
structure ClsD (K : PySem.W.Frag) (C : Addr) (fs : List Str) : Prop where
  c : Cls K C
  n : ∀ f ∈ fs, NoAttr K C f
def dFld (K : PySem.W.Frag) (f : Str) (t : DTE) : DTE := fun s M Q => t s M fun d M1 => ∃ p C fs v, d = .ref p ∧ M1 p = some (.ins C fs) ∧ Cls K C ∧ NoAttr K C f ∧ fs.lookup f = some v ∧ Q v M1
def sFld (K : PySem.W.Frag) (f : Str) (o t : DTE) : DTS := fun d s M => t s M fun v M1 => o s M1 fun x M2 => ∃ p C fs, x = .ref p ∧ M2 p = some (.ins C fs) ∧ Cls K C ∧ NoAttr K C f ∧ fs.length < 1000 ∧ d.nx s (upM M2 p (.ins C (putD f v fs)))
/-- a method, a call, an operator of an own class: its def as callers want it -/
structure CalM (P₀ : Program) (w : World) (K : PySem.W.Frag) (mg : Str → Option Value) (base : Heap) (C : Addr) (m : Str) (k : Nat) (sp : DSp) : Prop where
  ex : ∃ (f : Addr) (fd : FuncData) (ps : List Str), FnD P₀ w K mg base k f fd ps sp ∧ Meth K C m f ∧ Binds K fd ps []
theorem CalM.mono {P₀ : Program} {w : World} {K : PySem.W.Frag} {mg : Str → Option Value} {base : Heap} {C : Addr} {m : Str} {j k : Nat} {sp : DSp} (c : CalM P₀ w K mg base C m j sp) (h : j ≤ k) : CalM P₀ w K mg base C m k sp := let ⟨f, fd, ps, F, r⟩ := c.ex; ⟨f, fd, ps, F.mono h, r⟩
def dMeth (C : Addr) (m : Str) (sp : DSp) (W : DWX) (o : DTE) (t : DTA) : DTE := fun s M Q => o s M fun d M1 => ∃ p fs, d = .ref p ∧ M1 p = some (.ins C fs) ∧ fs.lookup m = none ∧ t s M1 fun ds M2 => sp (.ref p :: ds) M2 Q fun x M3 => W x s M3
def dCalO (C : Addr) (sp : DSp) (W : DWX) (o : DTE) (t : DTA) : DTE := fun s M Q => o s M fun d M1 => ∃ p, d = .ref p ∧ t s M1 fun ds M2 => (∃ fs, M2 p = some (.ins C fs)) ∧ sp (.ref p :: ds) M2 Q fun x M3 => W x s M3
def dMake (C : Addr) (sp : DSp) (W : DWX) (t : DTA) : DTE := fun s M Q => t s M fun ds M1 => ∀ p, M1 p = none → sp (.ref p :: ds) (upM M1 p (.ins C [])) (fun v M2 => v = .non ∧ Q (.ref p) M2) fun x M3 => W x s M3
/-- a class that is made -/
structure CalK (P₀ : Program) (w : World) (K : PySem.W.Frag) (mg : Str → Option Value) (base : Heap) (x : Str) (C : Addr) (k : Nat) (sp : DSp) : Prop where
  g : mg x = some (.ref C)
  ex : ∃ (f : Addr) (fd : FuncData) (ps : List Str), FnD P₀ w K mg base k f fd ps sp ∧ Mk K C f ∧ Binds K fd ps []
section
variable {X : Cx} {B : Bs} {W : DWX} {k : Nat} {sp : DSp} {C : Addr} {m x : Str} {e o : Expr} {es : List Expr} {te to : DTE} {u : DTA} {p pos apos : Pos}
theorem fs_none {K : PySem.W.Frag} {H : Hp} {fv : List (Str × V)} {fs : List (Str × D)} {f : Str} (r : DFs K H fv fs) (h : fs.lookup f = none) : fv.lookup f = none := by
  induction r with
  | nil => rfl
  | @cons p q l l' r t ih =>
    obtain ⟨x, v⟩ := p
    obtain ⟨y, e⟩ := q
    obtain ⟨r1, r2⟩ := r
    simp only at r1 r2
    subst r1
    rw [List.lookup_cons] at h ⊢
    cases b : f == x with
    | true => rw [b] at h; cases h
    | false =>
      rw [b] at h
      exact ih h
theorem fs_len {K : PySem.W.Frag} {H : Hp} {fv : List (Str × V)} {fs : List (Str × D)} (r : DFs K H fv fs) : fv.length = fs.length := Paired.length r
theorem put_DF {K : PySem.W.Frag} {H : Hp} {f : Str} {v : V} {d : D} (h : DR K H v d) {fv : List (Str × V)} {fs : List (Str × D)} (r : DFs K H fv fs) : DFs K H (putF f v fv) (putD f d fs) := by
  induction r with
  | nil => exact .cons ⟨rfl, h⟩ .nil
  | @cons p q l l' r t ih =>
    obtain ⟨x, v'⟩ := p
    obtain ⟨y, e⟩ := q
    obtain ⟨r1, r2⟩ := r
    simp only at r1 r2
    subst r1
    unfold putF putD
    by_cases hx : x = f
    · simp only [hx, if_true]
      exact .cons ⟨rfl, h⟩ t
    · simp only [hx, if_false]
      exact .cons ⟨rfl, r2⟩ ih
theorem de_fld {f : Str} (he : DE X B e te) (hb : attributeBase e f X.env (eval e X.env) = eval e X.env := by rfl) : DE X B (.Attribute e f pos) (dFld X.K f te) :=
  ⟨peI (pe_fld he.run hb) fun σ H Q ⟨s, M, P, hs, m, h, w⟩ => liE_then hs m h fun d M1 v H1 q r m1 f1 s1 => by
    obtain ⟨p, C, fs, v', rfl, h1, h2, h3, h4, q⟩ := q
    cases r
    obtain ⟨dx, fv, g1, g2⟩ := m1.m _ _ h1
    obtain ⟨v, l1, l2⟩ := lookupF g2 h4
    exact ⟨p, C, dx, fv, v, rfl, g1, h2, h3, l1, w _ _ q _ _ l2 m1 f1⟩⟩
theorem ts_ins {H : Hp} {p C dx : Addr} {fv gv : List (Str × V)} (h : H p = some (.ins C dx fv)) : TS0 H (upd H p (.ins C dx gv)) := ⟨fun a xs e => by
    by_cases q : a = p
    · subst q; rw [h] at e; cases e
    · rw [upd_ne q]; exact e, fun a z xs e => by
    by_cases q : a = p
    · subst q; rw [h] at e; cases e
    · rw [upd_ne q]; exact e, fun a e => by
    by_cases q : a = p
    · subst q; rw [upd_same] at e; cases e
    · rw [upd_ne q] at e; exact e⟩
theorem MB.iput {K : PySem.W.Frag} {M : DHp} {H : Hp} (m : MB K B M H) {p C dx : Addr} {fv gv : List (Str × V)} {fs gs : List (Str × D)} (h : H p = some (.ins C dx fv)) (hm : M p = some (.ins C fs)) (r : DFs K H gv gs) :
    MB K B (upM M p (.ins C gs)) (upd H p (.ins C dx gv)) ∧ Fr M H (upM M p (.ins C gs)) (upd H p (.ins C dx gv)) := by
  have t := ts_ins (gv := gv) h
  have f : Fr M H (upM M p (.ins C gs)) (upd H p (.ins C dx gv)) := ⟨t, fun a u e n => by
    have q : a ≠ p := fun z => by subst z; rw [hm] at n; cases n
    rw [upd_ne q, upM_ne q]
    exact ⟨e, n⟩⟩
  refine ⟨⟨fun a u e => ?_, m.b.trans f⟩, f⟩
  by_cases q : a = p
  · subst q
    rw [upM_same] at e
    cases e
    exact ⟨dx, gv, upd_same, DFs.ts t r⟩
  · rw [upM_ne q] at e
    exact (m.m a u e).ts t (upd_ne q)
theorem ds_fld {f : Str} {pos' : Pos} (ho : DE X B o to) (he : DE X B e te) (hs : swapsWith e (some (.Attribute o f pos')) pos.line X.env = pure false := by rfl) : DS X B (.Assign [.Attribute o f pos'] e pos) (sFld X.K f to te) :=
  ⟨psI (ps_fld ho.run he.run hs) fun D σ H ⟨s, M, d, hs, m, h, w⟩ => liE_then hs m h fun v M1 v' H1 q r m1 f1 s1 => liE_then s1 m1 q fun x M2 x' H2 q2 r2 m2 f2 s2 => by
    obtain ⟨p, C, fs, rfl, h1, h2, h3, h4, q⟩ := q2
    cases r2
    obtain ⟨dx, fv, g1, g2⟩ := m2.m _ _ h1
    obtain ⟨m3, f3⟩ := m2.iput g1 h1 (put_DF (f := f) (r.ts f2.s) g2)
    exact ⟨p, C, dx, fv, rfl, g1, h2, h3, by rw [fs_len g2]; exact h4, w.nx _ _ q _ _ (s2.ts f3.s) m3 ((f1.trans f2).trans f3)⟩⟩
/-- a def runs, from a place that is as deep as A -/
theorem run_A {A : Around} {f : Addr} {fd : FuncData} {ps : List Str} {pins : List (Addr × Obj)} {s : Shared} {σ : VS} {H : Hp} {Q : VK} {us : List Value} {vs : List V} {s0 : DSt} {M : DHp} {ds : List D} {P : DK} (F : FnD X.prog X.w X.K X.mg X.base k f fd ps sp) (hr : RoomG k A) (e0 : Env0 X.prog X.w X.K X.mg X.base A X.stack s H) (tk : DTk X B W)
    (hb : Binds X.K fd ps []) (I : Inv X pins σ H s) (r : Vals vs us) (rs : DRs X.K H vs ds) (hs : SR X.K H σ s0) (m : MB X.K B M H) (h : sp ds M P fun x M2 => W x s0 M2) (w : Wv X.K B M H P Q) :
    codeAny (model X.prog X.w) A (.call (.ref f) ⟨us, []⟩) (fun out s' => match out with
      | .ok (.ret v) => EP X pins σ Q v s'
      | .ok _ => False
      | .error er => X.xe er s') s := by
  have hsp : liF X.K sp vs H Q (fun c dx H' => liX X.K B W c dx σ H') := ⟨ds, M, P, _, rs, m.m, h, fun d M' q v H' a b c => w d M' q v H' a ⟨b, m.b.trans c⟩ c, fun x M' q c dx H' a b g => ⟨s0, M', x, hs.ts g.s, ⟨b, m.b.trans g⟩, a.old m.b.s, q⟩⟩
  have hl : (us ++ []).length = ps.length := by
    rw [List.append_nil, ← r.length]
    exact F.len _ _ _ _ hsp
  have hb2 := hb s us I.kIn hl
  rw [List.append_nil] at hb2
  refine codeAny_mono (F.run A X.stack s H ⟨us, []⟩ us vs Q _ hr e0 hb2 r hsp) fun out s' hq => ?_
  cases out with
  | error er => exact tk er s' (XE.of_call I (fun c d H' z => z) hq)
  | ok fl =>
    cases fl with
    | ret v => exact I.after hq
    | next => exact hq.elim
    | brk => exact hq.elim
    | cont => exact hq.elim
theorem RoomG.in1 {A : Around} (r : RoomG (k + 1) A) : RoomG k A.in1 := ⟨r.r.in1, r.g⟩
theorem make_guards {A : Around} {C : Addr} {us : List Value} {kw : List (Str × Value)} (h : A.guards = some []) : (A.under (.builtin "type.__call__" ⟨.ref C :: us, kw⟩)).guards = some [] := by
  have e : (Code.builtin "type.__call__" ⟨.ref C :: us, kw⟩).guards = [] := by
    unfold Code.guards
    rw [if_neg]
    first | exact Bool.false_ne_true | simp [Code.isGuard, guardIds]
  unfold Around.under
  dsimp only
  rw [e, h]
  rfl
theorem RoomG.make {A : Around} (r : RoomG (k + 1) A) (C : Addr) (us : List Value) : RoomG k (A.under (.builtin "type.__call__" ⟨.ref C :: us, []⟩)) := ⟨r.r.make C us [], make_guards r.g⟩
theorem call_A {A : Around} {f : Addr} {us : List Value} {s : Shared} {Q : Value → Shared → Prop} {E : Value → Shared → Prop} (h : codeAny (model X.prog X.w) A (.call (.ref f) ⟨us, []⟩) (fun out s' => match out with
      | .ok (.ret v) => Q v s'
      | .ok _ => False
      | .error er => E er s') s) : wpAny (model X.prog X.w) A (call (.ref f) us) Q E s := wpAny_call (codeAny_mono h fun out s' hq => by
  cases out with
  | error er => exact hq
  | ok fl =>
    cases fl with
    | ret v => exact hq
    | next => exact hq.elim
    | brk => exact hq.elim
    | cont => exact hq.elim)
theorem de_meth {pl : Sem Bool} (c : Cls X.K C) (G : CalM X.prog X.w X.K X.mg X.base C m k sp) (hr : RoomG k X.A) (tk : DTk X B W) (ho : DE X B o to) (ha : DA X B (e :: es) u)
    (ht : eval (.Call (.Attribute o m apos) (e :: es) [] pos) X.env = (do
      let z ← eval o X.env
      standAt apos.atName
      let (g, one) ← holding [z] (getMethod z m pl)
      callWith pos g one (backTo pos (starEach (e :: es) X.env)) (backToKw pos (keywordEach [] X.env))) := by rfl)
    (hs : starEach (e :: es) X.env = (false, eval e X.env) :: starEach es X.env := by rfl) (hpl : (backTo pos (starEach es X.env)).any (·.1) = false := by rfl) : DE X B (.Call (.Attribute o m apos) (e :: es) [] pos) (dMeth C m sp W to u) := by
  obtain ⟨f, fd, ps, F, hm, hb⟩ := G.ex
  refine ⟨⟨fun pins s σ H Q I ⟨s0, M, P, hs0, m0, h, w⟩ => ?_⟩⟩
  refine PySem.W.methodCall_KW (pl := pl) (thn (ho.run.run pins s σ H _ I (liE_then hs0 m0 h fun d M1 v H1 q r m1 f1 s1 => (⟨d, M1, P, q, r, s1, m1, w.go f1⟩ : ∃ d M1 P1, (∃ p fs, d = .ref p ∧ M1 p = some (.ins C fs) ∧ fs.lookup m = none ∧ u s0 M1 fun ds M2 => sp (.ref p :: ds) M2 P1 fun x M3 => W x s0 M3) ∧ DR X.K H1 v d ∧ SR X.K H1 σ s0 ∧ MB X.K B M1 H1 ∧ Wv X.K B M1 H1 P1 Q))) fun v s1 ⟨y, H1, I1, rx, d, M1, P1, ⟨p', fs, e1, e2, e3, q⟩, r, sr1, m1, w1⟩ => ?_) ht
  subst e1
  cases r
  cases rx
  obtain ⟨dx, fv, g1, g2⟩ := m1.m _ _ e2
  refine getmeth_ok I1 g1 c hm (fs_none g2 e3) ?_
  refine PySem.W.callWith_K (first := [.ref p']) I1.kIn hm.kp (thn (ha.run.run pos pins s1 σ H1 _ I1 (liA_then sr1 m1 q fun ds M2 vs H2 q2 r2 m2 f2 s2 => (⟨ds, M2, P1, r2, s2, m2, q2, w1.go f2⟩ : ∃ ds M2 P2, DRs X.K H2 vs ds ∧ SR X.K H2 σ s0 ∧ MB X.K B M2 H2 ∧ sp (.ref p' :: ds) M2 P2 (fun x M3 => W x s0 M3) ∧ Wv X.K B M2 H2 P2 Q))) fun us s2 ⟨vs, H2, I2, r2, ds, M2, P2, rs, sr2, m2, q2, w2⟩ => ⟨?_, ?_⟩) hs hpl
  · exact fun b ob e => I2.kIn b ob e
  · exact run_D F hr tk hb I2 (.cons (show L2.RelV (.ref p') (.ref p') from rfl) r2) (.cons (.ref p') rs) sr2 m2 q2 w2
/-- C(e, ..) -/
theorem MB.made {K : PySem.W.Frag} {M : DHp} {H : Hp} (m : MB K B M H) {p dx C : Addr} (hp : H p = none) (hd : H dx = none) (ne : dx ≠ p) :
    MB K B (upM M p (.ins C [])) (upd (upd H dx (.own p)) p (.ins C dx [])) ∧ Fr M H (upM M p (.ins C [])) (upd (upd H dx (.own p)) p (.ins C dx [])) := by
  obtain ⟨m1, f1⟩ := m.hid (o := .own p) hd
  have hp1 : upd H dx (.own p) p = none := by rw [upd_ne (Ne.symm ne)]; exact hp
  obtain ⟨m2, f2⟩ := m1.new (o := .ins C dx []) (d := .ins C []) hp1 ⟨dx, [], upd_same, .nil⟩
  exact ⟨m2, f1.trans f2⟩
theorem de_make (G : CalK X.prog X.w X.K X.mg X.base x C k sp) (hr : RoomG (k + 1) X.A) (tk : DTk X B W) (ha : DA X B (e :: es) u) (hg : Gl X x := by rfl) (hdb : (x == ("__debug__" : Str)) = false := by decide)
    (he : starEach (e :: es) X.env = (false, eval e X.env) :: starEach es X.env := by rfl) (hpl : (backTo pos (starEach es X.env)).any (·.1) = false := by rfl) : DE X B (.Call (.Name x p) (e :: es) [] pos) (dMake C sp W u) := by
  obtain ⟨f, fd, ps, F, Mk, hb⟩ := G.ex
  refine ⟨⟨fun pins s σ H Q I ⟨s0, M, P, hs, m, h, w⟩ => ?_⟩⟩
  refine wpAny_Call_Name_kw (ld_glob I hg G.g ?_ hdb)
  refine PySem.W.callWith_K (h₀ := X.base) I.ok.mod.kin Mk.kp (thn (ha.run.run pos pins s σ H _ I (liA_then hs m h fun ds M1 vs H1 q r m1 f1 s1 => (⟨ds, M1, P, r, s1, m1, q, w.go f1⟩ : ∃ ds M1 P1, DRs X.K H1 vs ds ∧ SR X.K H1 σ s0 ∧ MB X.K B M1 H1 ∧ (∀ p, M1 p = none → sp (.ref p :: ds) (upM M1 p (.ins C [])) (fun v M2 => v = .non ∧ P1 (.ref p) M2) fun x M3 => W x s0 M3) ∧ Wv X.K B M1 H1 P1 Q))) fun us s1 ⟨vs, H1, I1, r, ds, M1, P1, rs, hs1, m1, q, w1⟩ => ⟨I1.kIn, ?_⟩) he hpl
  have I2 := Inv.made (C := C) I1
  have hx := I1.hok.fresh (Nat.le_succ s1.heap.objs.size)
  have hd := I1.hok.fresh (Nat.le_refl s1.heap.objs.size)
  obtain ⟨m2, f2⟩ := m1.made (C := C) hx hd (Nat.ne_of_lt (Nat.lt_succ_self _))
  have w2 : Wv X.K B (upM M1 (s1.heap.objs.size + 1) (.ins C [])) _ (fun v M2 => v = .non ∧ P1 (.ref (s1.heap.objs.size + 1)) M2) (fun v H' => v = .non ∧ Q (.ref (s1.heap.objs.size + 1)) H') := fun d M' ⟨e, q⟩ v H' r' m' f' => by
    subst e
    cases r'
    exact ⟨rfl, w1 _ _ q _ _ (.ref _) m' (f2.trans f')⟩
  refine wpAny_call (L2.make_map (f := f) I1.kIn Mk.makes Mk.init (beq_iff_eq.mp Mk.fn) (codeAny_mono (run_A F (hr.make C us) (I2.env0.make C us []) tk hb I2 (.cons (show L2.RelV (.ref _) (.ref _) from rfl) r) (.cons (.ref _) (rs.ts f2.s)) (hs1.ts f2.s) m2 (q _ (m1.free hx)) w2) fun out s' hq => ?_))
  cases out with
  | error er => exact hq
  | ok fl =>
    cases fl with
    | ret v =>
      obtain ⟨v', H', I3, rv, ev, q3⟩ := hq
      subst ev
      exact ⟨rv, ⟨V.ref _, H', I3, rfl, q3⟩⟩
    | next => exact hq.elim
    | brk => exact hq.elim
    | cont => exact hq.elim
/-- o(e, ..), o an instance -/
theorem de_obj {g : Addr} (G : CalM X.prog X.w X.K X.mg X.base C "__call__" k sp) (hfi : ∀ g, Meth X.K C "__call__" g → PySem.W.fnIn X.K g = true) (hr : RoomG k X.A) (tk : DTk X B W) (ho : DE X B o to) (ha : DA X B (e :: es) u)
    (ht : eval (.Call o (e :: es) [] pos) X.env = (do callWith pos (← eval o X.env) [] (backTo pos (starEach (e :: es) X.env)) (backToKw pos (keywordEach [] X.env))) := by rfl)
    (hs : starEach (e :: es) X.env = (false, eval e X.env) :: starEach es X.env := by rfl) (hpl : (backTo pos (starEach es X.env)).any (·.1) = false := by rfl) : DE X B (.Call o (e :: es) [] pos) (dCalO C sp W to u) := by
  obtain ⟨f, fd, ps, F, hm, hb⟩ := G.ex
  refine ⟨⟨fun pins s σ H Q I ⟨s0, M, P, hs0, m0, h, w⟩ => ?_⟩⟩
  refine Call_ (thn (ho.run.run pins s σ H _ I (liE_then hs0 m0 h fun d M1 v H1 q r m1 f1 s1 => (⟨d, M1, P, q, r, s1, m1, w.go f1⟩ : ∃ d M1 P1, (∃ p, d = .ref p ∧ u s0 M1 fun ds M2 => (∃ fs, M2 p = some (.ins C fs)) ∧ sp (.ref p :: ds) M2 P1 fun x M3 => W x s0 M3) ∧ DR X.K H1 v d ∧ SR X.K H1 σ s0 ∧ MB X.K B M1 H1 ∧ Wv X.K B M1 H1 P1 Q))) fun v s1 ⟨y, H1, I1, rx, d, M1, P1, ⟨p', e1, q⟩, r, sr1, m1, w1⟩ => ?_) ht
  subst e1
  cases r
  cases rx
  refine callO_with (thn (ha.run.run pos pins s1 σ H1 _ I1 (liA_then sr1 m1 q fun ds M2 vs H2 q2 r2 m2 f2 s2 => (⟨ds, M2, P1, r2, s2, m2, q2, w1.go f2⟩ : ∃ ds M2 P2, DRs X.K H2 vs ds ∧ SR X.K H2 σ s0 ∧ MB X.K B M2 H2 ∧ ((∃ fs, M2 p' = some (.ins C fs)) ∧ sp (.ref p' :: ds) M2 P2 (fun x M3 => W x s0 M3)) ∧ Wv X.K B M2 H2 P2 Q))) fun us s2 ⟨vs, H2, I2, r2, ds, M2, P2, rs, sr2, m2, ⟨⟨fs, hp⟩, q2⟩, w2⟩ => ?_) hs hpl
  obtain ⟨dx, fv, g1, g2⟩ := m2.m _ _ hp
  obtain ⟨ox, od, J, hd⟩ := insC_at I2 (.inr ⟨dx, fv, g1⟩)
  refine ⟨⟨C, ox, od, J, hd⟩, ?_⟩
  exact wpAny_call (PySem.W.kco_code I2.kIn J hd hm.at_ hm.fn (hfi f hm) (codeAny_mono (run_A (us := .ref p' :: us) F hr I2.env0 tk hb I2 (.cons (show L2.RelV (.ref p') (.ref p') from rfl) r2) (.cons (.ref p') rs) sr2 m2 q2 w2) fun out s' hq => by
    cases out with
    | error er => exact hq
    | ok fl =>
      cases fl with
      | ret v => exact hq
      | next => exact hq.elim
      | brk => exact hq.elim
      | cont => exact hq.elim))
/-- len(o), o an instance or a list, a tuple, a text -/
def dLenO (C : Addr) (sp : DSp) (W : DWX) (t : DTE) : DTE := fun s M Q => t s M fun d M1 => lenD [d] M1 Q ∨ ∃ p fs, d = .ref p ∧ M1 p = some (.ins C fs) ∧ sp [.ref p] M1 (fun v M2 => ∃ n : Nat, v = .int n ∧ n < 1000000 ∧ Q (.int (n : Nat)) M2) fun x M3 => W x s M3
theorem de_lenO (hm : X.mg "len" = none) (G : CalM X.prog X.w X.K X.mg X.base C "__len__" k sp) (hr : RoomG (k + 1) X.A) (tk : DTk X B W) (ho : DE X B o to) (hg : Gl X "len" := by rfl)
    (hs : starEach [o] X.env = (false, eval o X.env) :: starEach [] X.env := by rfl) : DE X B (.Call (.Name "len" p) [o] [] pos) (dLenO C sp W to) := by
  obtain ⟨f, fd, ps, F, hmt, hb⟩ := G.ex
  refine ⟨⟨fun pins s σ H Q I ⟨s0, M, P, hs0, m0, h, w⟩ => ?_⟩⟩
  refine wpAny_Call_Name_kw (ld_blt I hg hm boot_len (PyProof.Rows.callWith_builtin1 (thn ((pa_cons ho.run pa_nil hs).run pos pins s σ H (fun vs H1 => ∃ v d M1, vs = [v] ∧ DR X.K H1 v d ∧ SR X.K H1 σ s0 ∧ MB X.K B M1 H1 ∧ (lenD [d] M1 P ∨ ∃ p fs, d = .ref p ∧ M1 p = some (.ins C fs) ∧ sp [.ref p] M1 (fun v M2 => ∃ n : Nat, v = .int n ∧ n < 1000000 ∧ P (.int (n : Nat)) M2) fun x M3 => W x s0 M3) ∧ Wv X.K B M1 H1 P Q) I
    (liE_then hs0 m0 h fun d M1 v H1 q r m1 f1 s1 => ⟨v, d, M1, rfl, r, s1, m1, q, w.go f1⟩)) fun us s1 ⟨vs, H1, I1, r, v, d, M1, e, rd, sr, m1, q, w1⟩ => ?_) hs rfl))
  subst e
  rcases q with q | ⟨p', fs, e, e2, q⟩
  · exact cr_len pins s1 σ H1 [v] us Q I1 r ⟨[d], M1, P, .one rd, m1, q, w1⟩
  · subst e
    cases rd
    cases (Vals.ref1 r)
    obtain ⟨dx, fv, g1, g2⟩ := m1.m _ _ e2
    obtain ⟨mA, O, _⟩ := ins_get I1.hok g1
    obtain ⟨od, J, _⟩ := O.look
    obtain ⟨ml, hF⟩ := I1.fr
    refine PySem.W.len_K hF I1.ok.mod.kin J hmt.at_ hmt.fn (wpAny_mono (call_A (run_A F hr.in1 I1.env0.in1 tk hb I1 (.cons (show L2.RelV (.ref p') (.ref p') from rfl) .nil) (.one (.ref p')) sr m1 q (Q := fun v H2 => ∃ n : Nat, v = .int n ∧ n < 1000000 ∧ Q (.int (n : Nat)) H2) fun d M2 ⟨n, e1, e2, q⟩ v H2 r' m' f' => ?_)) (fun u s2 ⟨v, H2, I2, rv, n, e1, e2, q⟩ => ?_) fun _ _ z => z)
    · subst e1
      cases r'
      exact ⟨n, rfl, e2, w1 _ _ q _ _ (.int _) m' f'⟩
    · subst e1
      obtain ⟨t, rfl⟩ := rv
      exact ⟨⟨by omega, by omega⟩, .int n, H2, I2.tok _, ⟨_, rfl⟩, q⟩
/-- o == e by an own __eq__ -/
def eqO (C : Addr) (sp : DSp) : DCm := fun a b M Q => eqD a b M Q ∨ ∃ p fs, a = .ref p ∧ M p = some (.ins C fs) ∧ (∃ k, kindD M b = some k ∧ ∀ D, k = .ins D → D = C) ∧ sp [a, b] M (fun v M2 => ∃ k, v = .bl k ∧ Q k M2) fun _ _ => False
/-- an own class that is compared -/
structure ClsQ (K : PySem.W.Frag) (C : Addr) : Prop where
  i : ClsI K C
  n : ∀ T ∈ ["NoneType", "bool", "int", "str", "tuple", "list"], PySem.W.notFirst K C (.type T) = true
  s : PySem.W.notFirst K C (.ref C) = true
theorem SR.blank {K : PySem.W.Frag} {H : Hp} : ∀ σ : VS, SR K H σ (List.replicate σ.length none)
  | [] => .nil
  | o :: σ => .skip (SR.blank σ)
theorem or_eqO (T : ClsQ X.K C) (G : CalM X.prog X.w X.K X.mg X.base C "__eq__" k sp) (hr : RoomG k X.A) (h80 : X.A.units + 64 < cLine) : OpR X (compareOp .Eq) (liQ X.K B (eqO C sp)) := fun pins s σ H x y v u Q I rx ry ⟨a, b, M, P, ra, rb, m, h, w⟩ => by
  obtain ⟨f, fd, ps, F, hmt, hb⟩ := G.ex
  rcases h with h | ⟨p', fs, e1, e2, ⟨kd, hk, hkC⟩, h⟩
  · exact or_eq h80 pins s σ H x y v u Q I rx ry ⟨a, b, M, P, ra, rb, m, h, w⟩
  · subst e1
    cases ra
    cases rx
    obtain ⟨dx, fv, g1, g2⟩ := m.m _ _ e2
    obtain ⟨mA, O, _⟩ := ins_get I.hok g1
    obtain ⟨od, J, _⟩ := O.look
    obtain ⟨ml, hF⟩ := I.fr
    obtain ⟨t, tx, ht⟩ := kind_ty rb m hk (by
      cases kd with
      | ins D => obtain rfl := hkC D rfl; exact T.i
      | _ => trivial)
    obtain ⟨R, kx, hR, _⟩ := kit_of I ry tx
    have hn : PySem.W.notFirst X.K C t = true := by
      rcases ht with ⟨_, rfl, ht⟩ | ⟨D, e, rfl⟩
      · rcases ht with ⟨_, rfl⟩ | ⟨_, rfl⟩ | ⟨_, rfl⟩ | ⟨_, rfl⟩ | ⟨_, rfl⟩ | ⟨_, rfl⟩ <;> exact T.n _ (by simp)
      · obtain rfl := hkC D e
        exact T.s
    show wpAny _ _ (richCompare .Eq (.ref p') u) _ _ _
    refine PySem.W.cmp_K (op := .Eq) hr.r.units0 hF I.ok.mod.kin J (kx.ty _ _ I.kIn hR) hn hmt.at_ hmt.fn (wpAny_mono (call_A (run_A (W := W0) F hr I.env0 tk0 hb I (.cons (show L2.RelV (.ref p') (.ref p') from rfl) (.cons ry .nil)) (.cons (.ref p') (.one rb)) (SR.blank σ) m h (Q := fun v H2 => ∃ k, v = .bl k ∧ Q (.bl k) H2)
      fun d M2 ⟨k, e1, q⟩ v H2 r' m' f' => ?_)) (fun u s2 ⟨v, H2, I2, rv, k, e1, q⟩ => ?_) fun _ _ z => z)
    · subst e1
      cases r'
      exact ⟨k, rfl, w _ _ q _ _ (.bl _) m' f'⟩
    · subst e1
      exact cmpback rv ⟨.bl k, H2, I2, rv, q⟩
end
end DL
set_option linter.all false
/-! zip of two lists or tuples -/
namespace DL
open PySem PySem.Spec PyProof.Rows L2
open PySem.W
def Sv (t : Bool) (K : PySem.W.Frag) (H : Hp) (a : Addr) (xs : List V) : Prop := if t = true then SqT K H a xs else SqL K H a xs
def SvI (t : Bool) (h : Heap) (it a : Addr) (i : Nat) : Prop := if t = true then h.IsTupleIter it a i else h.IsListIter it a i
def SvO (t : Bool) (a : Addr) : Obj := if t = true then { cls := .type "tuple_iterator", data := .fields #[.ref a, .int 0 0] } else { cls := .type "list_iterator", data := .fields #[.ref a, .int 0 0] }
def SvL (t : Bool) (h : Heap) (a : Addr) (items : Array Value) : Prop := if t = true then h.IsTuple a items else h.IsList a items
theorem sv_draws {prog : Program} {w : World} {A : Around} (t : Bool) (hh : A.handled = none) (it a : Addr) (hne : a ≠ it) (items : Array Value) : Draws prog w A it [it, a] items.size (fun i v => items[i]? = some v) (fun i h => SvI t h it a i ∧ SvL t h a items) := by
  cases t with
  | true => exact Draws.tuple hh it a hne items
  | false => exact Draws.list hh it a hne items
theorem sv_begins (t : Bool) (a : Addr) (items : Array Value) : Begins (.ref a) (SvO t a) fun h => SvL t h a items := by
  cases t with
  | true => exact begins_tuple a items
  | false => exact begins_list a items
theorem sv_at (t : Bool) {h h' : Heap} {it a : Addr} {i : Nat} (x : SvI t h it a i) (k : ∀ o, h.get? it = some o → h'.get? it = some o) : SvI t h' it a i := by
  cases t with
  | true => exact Heap.IsTupleIter.at (show h.IsTupleIter it a i from x) k
  | false => exact Heap.IsListIter.at (show h.IsListIter it a i from x) k
theorem sv_obj (t : Bool) {h : Heap} {it a : Addr} {i : Nat} (x : SvI t h it a i) : ∃ o, h.get? it = some o ∧ ∀ v, o.data ≠ .cell v := by
  cases t with
  | true =>
    obtain ⟨o, e, _, d⟩ := (show h.IsTupleIter it a i from x)
    exact ⟨o, e, fun v q => by rw [d] at q; cases q⟩
  | false =>
    obtain ⟨o, e, _, d⟩ := (show h.IsListIter it a i from x)
    exact ⟨o, e, fun v q => by rw [d] at q; cases q⟩
theorem sv_new (t : Bool) {h : Heap} {it a : Addr} (e : h.get? it = some (SvO t a)) : SvI t h it a 0 := by
  cases t with
  | true => exact ⟨_, e, rfl, rfl⟩
  | false => exact ⟨_, e, rfl, rfl⟩
section
variable {X : Cx} {pins : List (Addr × Obj)} {σ : VS} {H : Hp} {s : Shared} {a : Addr} {xs ys : List V} {t : Bool}
theorem sv_read (I : Inv X pins σ H s) (h : Sv t X.K H a xs) : ∃ its : List Value, Vals xs its ∧ SvL t s.heap a its.toArray ∧ a < s.heap.objs.size := by
  cases t with
  | true =>
    obtain ⟨its, r, p, _⟩ := I.tuple (show SqT X.K H a xs from h)
    obtain ⟨o, ho, _⟩ := id p
    exact ⟨its, r, p, Heap.lt_size ho⟩
  | false =>
    obtain ⟨its, r, p, _⟩ := I.list (show SqL X.K H a xs from h)
    exact ⟨its, r, p.isList, p.lt⟩
theorem sv_inj (I : Inv X pins σ H s) (h : Sv t X.K H a xs) (h' : Sv t X.K H a ys) : xs = ys := by
  cases t with
  | true => exact I.tuple_inj (show SqT X.K H a xs from h) h'
  | false => exact I.list_inj (show SqL X.K H a xs from h) h'
end
def ItZ (K : PySem.W.Frag) (t u : Bool) (a b : Addr) : It :=
  ⟨fun i H => ∃ (xs ys : List V) (x y : V), Sv t K H a xs ∧ Sv u K H b ys ∧ xs[i]? = some x ∧ ys[i]? = some y,
    fun i H v H' => ∃ (T : Addr) (x y : V) (o : Obj), v = .ref T ∧ H T = none ∧ o.dict = none ∧ H' = upd H T (.frz o (.tup [x, y])) ∧ (∀ xs, Sv t K H a xs → xs[i]? = some x) ∧ ∀ ys, Sv u K H b ys → ys[i]? = some y,
    fun i H => ∃ xs ys : List V, Sv t K H a xs ∧ Sv u K H b ys ∧ i ≤ xs.length ∧ i ≤ ys.length ∧ (i = xs.length ∨ i = ys.length)⟩
theorem zsep {z TI TO i1 i2 a b : Addr} (S : ZipApart z TI TO i1 i2 a b) (ha2 : a ≠ i2) (hb1 : b ≠ i1) : ZipSep2 z TI TO i1 i2 [i1, a] [i2, b] where
  TIz := S.TIz
  TOz := S.TOz
  TITO := S.TITO
  TIi1 := S.TIi1
  mem1 := by simp
  zf1 := by simp [S.i1z.symm, S.l1z.symm]
  Tf1 := by simp [S.TOi1, S.l1TO.symm]
  TIi2 := S.TIi2
  mem2 := by simp
  zf2 := by simp [S.i2z.symm, S.l2z.symm]
  Tf2 := by simp [S.TOi2, S.l2TO.symm]
  sep1_2 := by simp [S.i12, hb1.symm]
  sep2_1 := by simp [S.i12.symm, ha2.symm]
set_option maxHeartbeats 1000000 in
theorem turn_zz {P : Program} {w : World} {K : PySem.W.Frag} {elts : List Expr} {kk : Nat} {tpos : Pos} {t u : Bool} {a b z TI TO i1 i2 : Addr} (S : ZipApart z TI TO i1 i2 a b) (ha2 : a ≠ i2) (hb1 : b ≠ i1) :
    Turn P w K (.Tuple elts kk tpos) (ItZ K t u a b) [z, TI, TO, i1, i2] z (fun i h => IsZip h z TI TO .none ∧ IsPair h TI (.ref i1) (.ref i2) ∧ (∃ x y, IsPair h TO x y) ∧ SvI t h i1 a i ∧ SvI u h i2 b i) where
  mem := by simp
  obj := fun i h ⟨q1, q2, ⟨x, y, q3⟩, q4, q5⟩ c hc => by
    simp only [List.mem_cons, List.not_mem_nil, or_false] at hc
    rcases hc with rfl | rfl | rfl | rfl | rfl
    · exact ⟨_, q1, fun v q => nomatch q⟩
    · exact ⟨_, q2, fun v q => nomatch q⟩
    · exact ⟨_, q3, fun v q => nomatch q⟩
    · exact sv_obj t q4
    · exact sv_obj u q5
  keep := fun i h h' ⟨q1, q2, ⟨x, y, q3⟩, q4, q5⟩ k => ⟨k z (by simp) _ q1, k TI (by simp) _ q2, ⟨x, y, k TO (by simp) _ q3⟩, sv_at t q4 fun o q => k i1 (by simp) o q, sv_at u q5 fun o q => k i2 (by simp) o q⟩
  item := by
    rintro X rfl rfl rfl hc i pins s σ H E I hf ⟨q1, q2, ⟨x0, y0, q3⟩, q4, q5⟩ ⟨xs, ys, x, y, hqx, hqy, hx, hy⟩
    obtain ⟨its, rv, p, _⟩ := sv_read I hqx
    obtain ⟨its2, rv2, p2, _⟩ := sv_read I hqy
    obtain ⟨u1, hu, ru⟩ := rv.get hx
    obtain ⟨u2, hu2, ru2⟩ := rv2.get hy
    have zl : z < s.heap.objs.size := Heap.lt_size q1
    have l1 : i < its.toArray.size := by
      have := (List.getElem?_eq_some_iff.mp hu).1
      simpa using this
    have l2 : i < its2.toArray.size := by
      have := (List.getElem?_eq_some_iff.mp hu2).1
      simpa using this
    refine wpAny_pyNext_zipD2_item (zsep S ha2 hb1) (sv_draws (A := X.A.in1) t (I.ok.hd hc) i1 a S.l1i1 its.toArray) (sv_draws (A := X.A.in1) u (I.ok.hd hc) i2 b S.l2i2 its2.toArray) q1 q2 q3 ⟨q4, p⟩ ⟨q5, p2⟩ l1 l2
      fun v1 v2 h' tk w1 w2 z' TO' st1 st2 hT hsz hk => ?_
    have e1 : v1 = u1 := by
      have w1' : its[i]? = some v1 := by simpa using w1
      rw [hu] at w1'
      exact (Option.some.inj w1').symm
    have e2 : v2 = u2 := by
      have w2' : its2[i]? = some v2 := by simpa using w2
      rw [hu2] at w2'
      exact (Option.some.inj w2').symm
    subst e1 e2
    refine ⟨_, rfl, wpAny_letOwnedTupleGo_zip (s := { s with heap := h', toks := tk }) z' fun h'' z'' sb => ?_⟩
    have hT2 : h''.get? s.heap.objs.size = some { cls := .type "tuple", data := .seq #[v1, v2] } := (sb.2 _ (Nat.ne_of_gt zl)).trans hT
    have new : ObjOk X.prog X.w (upd H s.heap.objs.size (.frz { cls := .type "tuple", data := .seq #[v1, v2] } (.tup [x, y]))) h'' s.heap.objs.size (.frz { cls := .type "tuple", data := .seq #[v1, v2] } (.tup [x, y])) :=
      ⟨hT2, by show 2 ≤ sizeLine; decide, [v1, v2], .cons ru (.cons ru2 .nil), ⟨_, hT2, rfl, _, rfl⟩⟩
    have I1 : Inv X pins σ (upd H s.heap.objs.size (.frz { cls := .type "tuple", data := .seq #[v1, v2] } (.tup [x, y]))) { s with heap := h'', toks := tk } :=
      I.turnedNew (t' := tk) (ch := [z, TI, TO, i1, i2]) (fun c o hb q => (sb.2 c (fun q' => hb (by simp [q']))).trans (hk c o (fun q' => hb (by simp [q'])) (fun q' => hb (by simp [q'])) (fun q' => hb (by simp [q'])) (fun q' => hb (by simp [q'])) q)) hf (Nat.le_refl _) new
    refine ⟨.ref s.heap.objs.size, _, I1, rfl, ⟨_, x, y, _, rfl, I.hok.fresh (Nat.le_refl _), rfl, rfl, fun l hl => by rw [sv_inj I hl hqx]; exact hx, fun l hl => by rw [sv_inj I hl hqy]; exact hy⟩, ⟨z'', ?_, ⟨v1, v2, ?_⟩, ?_, ?_⟩, fun c hcm => ?_⟩
    · exact (sb.2 _ S.TIz).trans (hk _ _ S.TIz S.TITO S.TIi1 S.TIi2 q2)
    · exact (sb.2 _ S.TOz).trans TO'
    · exact sv_at t st1.1 fun o q => (sb.2 _ S.i1z).trans q
    · exact sv_at u st2.1 fun o q => (sb.2 _ S.i2z).trans q
    · have lt : c < s.heap.objs.size := by
        simp only [List.mem_cons, List.not_mem_nil, or_false] at hcm
        rcases hcm with rfl | rfl | rfl | rfl | rfl
        · exact zl
        · exact Heap.lt_size q2
        · exact Heap.lt_size q3
        · obtain ⟨_, e, _⟩ := sv_obj t q4; exact Heap.lt_size e
        · obtain ⟨_, e, _⟩ := sv_obj u q5; exact Heap.lt_size e
      rw [upd_ne (Nat.ne_of_lt lt)]
      exact (hf c hcm).1
  done := by
    rintro X rfl rfl rfl hc i pins s σ H E I hf ⟨q1, q2, ⟨x0, y0, q3⟩, q4, q5⟩ ⟨xs, ys, hqx, hqy, b1, b2, hend⟩
    obtain ⟨its, rv, p, _⟩ := sv_read I hqx
    obtain ⟨its2, rv2, p2, _⟩ := sv_read I hqy
    have l1 := rv.length
    have l2 := rv2.length
    exact wpAny_pyNext_zipD2_end (zsep S ha2 hb1) (sv_draws (A := X.A.in1) t (I.ok.hd hc) i1 a S.l1i1 its.toArray) (sv_draws (A := X.A.in1) u (I.ok.hd hc) i2 b S.l2i2 its2.toArray) q1 q2 q3 ⟨q4, p⟩ ⟨q5, p2⟩ (by rw [List.size_toArray]; omega) (by rw [List.size_toArray]; omega) (by rw [List.size_toArray, List.size_toArray]; omega)
      fun h' tk hk => ⟨rfl, I.turnedL (t' := tk) (ch := [z, TI, TO, i1, i2]) (fun c o hb q => hk c o (fun q' => hb (by simp [q'])) (fun q' => hb (by simp [q'])) (fun q' => hb (by simp [q'])) (fun q' => hb (by simp [q'])) q) hf⟩
  self := fun A i s Q E st h => wpAny_pyIter_zip st.1 h
def vZip (K : PySem.W.Frag) (ta : TA) : TI := fun σ H R => ta σ H fun vs H1 => ∃ (a b : Addr) (t u : Bool) (xs ys : List V), vs = [.ref a, .ref b] ∧ Sv t K H1 a xs ∧ Sv u K H1 b ys ∧ R (ItZ K t u a b) H1
theorem pi_vZip {X : Cx} {e e2 : Expr} {ta : TA} {p pos tpos : Pos} {elts : List Expr} {kk : Nat} (hg : Gl X "zip") (hm : X.mg "zip" = none) (ha : PA X [e, e2] ta)
    (hs : starEach [e, e2] X.env = (false, eval e X.env) :: starEach [e2] X.env) (hpl : (backTo pos (starEach [e2] X.env)).any (·.1) = false) : PI X (.Tuple elts kk tpos) (.Call (.Name "zip" p) [e, e2] [] pos) (vZip X.K ta) := by
  refine ⟨fun pins s σ H R I h => Call_ (ld_blt I hg hm PyProof.Rows.boot_zip (PyProof.Rows.callWith_type1 (thn (ha.run pos pins s σ H _ I h) fun us s1 ⟨vs, H1, I1, r1, a, b, t, u, xs, ys, q0, hqx, hqy, q⟩ => ?_) hs hpl))⟩
  subst q0
  obtain ⟨v1, v2, rfl, ra, rb⟩ := r1.two
  cases ra
  cases rb
  obtain ⟨its, rv, p1, la⟩ := sv_read I1 hqx
  obtain ⟨its2, rv2, p2, lb⟩ := sv_read I1 hqy
  have fp : ∀ c ∈ [s1.heap.objs.size + 4, s1.heap.objs.size + 2, s1.heap.objs.size + 3, s1.heap.objs.size, s1.heap.objs.size + 1], FpOk X pins H1 c := fun c hcm => by
    have le : s1.heap.objs.size ≤ c := by
      simp only [List.mem_cons, List.not_mem_nil, or_false] at hcm
      omega
    exact I1.fpOk le (I1.hok.fresh le)
  refine zip_begins2 (sv_begins t a its.toArray) (sv_begins u b its2.toArray) p1 p2 fun h' hz hTI hTO g1 g2 _ hk => wpAny_pyIter_zip hz ?_
  exact ⟨s1.heap.objs.size + 4, [s1.heap.objs.size + 4, s1.heap.objs.size + 2, s1.heap.objs.size + 3, s1.heap.objs.size, s1.heap.objs.size + 1], _, _, H1, rfl, I1.kept (t' := s1.toks) hk,
    turn_zz (PySem.W.ktu_apart s1.heap.objs.size a b la lb) (Nat.ne_of_lt (Nat.lt_succ_of_lt la)) (Nat.ne_of_lt lb), ⟨hz, hTI, ⟨_, _, hTO⟩, sv_new t g1, sv_new u g2⟩, fp, q⟩
def iZp (te tf : DTE) : DTI := fun s M R => te s M fun d M1 => tf s M1 fun e M2 => ∃ ds es, SqD M2 d ds ∧ SqD M2 e es ∧ R ⟨prD ds es, fun M => SqD M d ds ∧ SqD M e es⟩ M2
section
variable {X : Cx} {B : Bs} {e e2 : Expr} {te tf : DTE} {p pos : Pos}
theorem sv_D {K : PySem.W.Frag} {H : Hp} {M : DHp} {v : V} {d : D} {ds : List D} (h : SqD M d ds) (r : DR K H v d) (m : MR K M H) : ∃ a t vs, v = .ref a ∧ Sv t K H a vs ∧ DRs K H vs ds := by
  obtain ⟨a, vs, e, t, r⟩ := h.v (B := ⟨M, H⟩) r ⟨m, .refl _ _⟩
  rcases t with t | t
  · exact ⟨a, false, vs, e, t, r⟩
  · exact ⟨a, true, vs, e, t.sq, r⟩
/-- what stood as a list or a tuple stands so -/
def SvD (K : PySem.W.Frag) (a : Addr) (t : Bool) (d : D) (ds : List D) (H0 : Hp) : Prop := ∀ M H, TS0 H0 H → MR K M H → SqD M d ds → ∃ vs, Sv t K H a vs ∧ DRs K H vs ds
theorem svD_of {K : PySem.W.Frag} {H0 : Hp} {M0 : DHp} {v : V} {d : D} {ds : List D} (h : SqD M0 d ds) (r : DR K H0 v d) (m : MR K M0 H0) : ∃ a t vs, v = .ref a ∧ Sv t K H0 a vs ∧ SvD K a t d ds H0 := by
  rcases h with rfl | ⟨p, rfl, h⟩
  · cases r with
    | tup t r => exact ⟨_, true, _, rfl, t.sq, fun M H e _ _ => ⟨_, sqT_ts t.sq e, r.ts e⟩⟩
  · cases r
    obtain ⟨vs, t, r⟩ := listOf (B := ⟨M0, H0⟩) ⟨m, .refl _ _⟩ h
    exact ⟨p, false, vs, rfl, t, fun M H e m hq => listOf (B := ⟨M, H⟩) ⟨m, .refl _ _⟩ hq.at⟩
theorem prD_len (xs ys : List D) : (prD xs ys).length = min xs.length ys.length := by simp [prD]
theorem prD_get {xs ys : List D} {i : Nat} {x y : D} (hx : xs[i]? = some x) (hy : ys[i]? = some y) : (prD xs ys)[i]? = some (.tup [x, y]) := by
  unfold prD
  rw [List.getElem?_map, show (xs.zip ys)[i]? = some (x, y) from List.getElem?_zip_eq_some.mpr ⟨hx, hy⟩]
  rfl
theorem itd_zip {K : PySem.W.Frag} {H0 : Hp} {a b : Addr} {t u : Bool} {d e : D} {ds es : List D} (h1 : SvD K a t d ds H0) (h2 : SvD K b u e es H0) : ItD K ⟨prD ds es, fun M => SqD M d ds ∧ SqD M e es⟩ (ItZ K t u a b) H0 where
  go := fun i M H q m ok hi => by
    have hi : i < (prD ds es).length := hi
    rw [prD_len] at hi
    obtain ⟨vs, s1, r1⟩ := h1 M H q m ok.1
    obtain ⟨us, s2, r2⟩ := h2 M H q m ok.2
    obtain ⟨v, hv, _⟩ := r1.getD (List.getElem?_eq_getElem (i := i) (by omega))
    obtain ⟨v2, hv2, _⟩ := r2.getD (List.getElem?_eq_getElem (i := i) (by omega))
    exact ⟨vs, us, v, v2, s1, s2, hv, hv2⟩
  stop := fun M H q m ok => by
    obtain ⟨vs, s1, r1⟩ := h1 M H q m ok.1
    obtain ⟨us, s2, r2⟩ := h2 M H q m ok.2
    refine ⟨vs, us, s1, s2, ?_⟩
    show (prD ds es).length ≤ vs.length ∧ (prD ds es).length ≤ us.length ∧ ((prD ds es).length = vs.length ∨ (prD ds es).length = us.length)
    rw [prD_len, r1.length, r2.length]
    omega
  yld := fun i M H x H' q m ok hi ⟨T, x1, y1, o, g1, g2, ho, g3, g4, g5⟩ => by
    subst g1 g3
    obtain ⟨vs, s1, r1⟩ := h1 M H q m ok.1
    obtain ⟨us, s2, r2⟩ := h2 M H q m ok.2
    obtain ⟨d1, e1, f1⟩ := r1.get (g4 _ s1)
    obtain ⟨d2, e2, f2⟩ := r2.get (g5 _ s2)
    obtain ⟨k1, k2, k3⟩ := pair_new m ho g2 f1 f2
    exact ⟨_, prD_get e1 e2, k1, k2, k3⟩
theorem di_zp {tpos : Pos} {elts : List Expr} {kk : Nat} (hm : X.mg "zip" = none) (he : DE X B e te) (he2 : DE X B e2 tf) (hg : Gl X "zip" := by rfl) (hs : starEach [e, e2] X.env = (false, eval e X.env) :: starEach [e2] X.env := by rfl)
    (hs2 : starEach [e2] X.env = (false, eval e2 X.env) :: starEach [] X.env := by rfl) (hpl : (backTo pos (starEach [e2] X.env)).any (·.1) = false := by rfl) : DI X B (.Tuple elts kk tpos) (.Call (.Name "zip" p) [e, e2] [] pos) (iZp te tf) :=
  ⟨piI (pi_vZip hg hm (pa_cons he.run (pa_cons he2.run pa_nil hs2) hs) hs hpl) fun σ H R ⟨s, M, P, hs, m, h, w⟩ => liE_then hs m h fun d M1 v H1 q r m1 f1 s1 => liE_then s1 m1 q fun d2 M2 v2 H2 q2 r2 m2 f2 s2 => by
    obtain ⟨ds, es, g1, g2, q⟩ := q2
    obtain ⟨a, t, vs, rfl, k1, k2⟩ := svD_of g1 (r.ts f2.s) m2.m
    obtain ⟨b, u, us, rfl, k3, k4⟩ := svD_of g2 r2 m2.m
    exact ⟨a, b, t, u, vs, us, rfl, k1, k3, w _ _ q _ _ (itd_zip k2 k4) m2 (f1.trans f2)⟩⟩
end
end DL
set_option linter.all false
/-! in, methods of lists, constants, ranges as lists -/
namespace DL
open PySem PySem.Spec PyProof.Rows L2
def vInDT (K : PySem.W.Frag) (neg : Bool) : R2 := fun x y H Q => ∃ d ds, Dp K H x d ∧ Dp K H y (.tuple ds) ∧ SeqAt.shaped d = true ∧ SeqAt.shaped (.tuple ds) = true ∧ Q (.bl (if neg then !(ds.any fun z => PyData.eqv z d) else ds.any fun z => PyData.eqv z d)) H
theorem shaped_lt {ds : List PyData} (h : SeqAt.shaped (.tuple ds) = true) : SeqAt.shaped (.list ds) = true := by
  have e : SeqAt.shaped (.tuple ds) = SeqAt.shaped (.list ds) := by
    show ((PyData.tuple ds).canLay0 && decide ((PyData.tuple ds).depth ≤ 64)) = ((PyData.list ds).canLay0 && decide ((PyData.list ds).depth ≤ 64))
    simp only [PyData.canLay0, PyData.depth]
    rfl
  rw [← e]
  exact h
abbrev DMt := D → List D → DHp → DK → Prop
def appD : DMt := fun d es M Q => ∃ p x ds, d = .ref p ∧ es = [x] ∧ M p = some (.lst ds) ∧ ds.length < sizeLine ∧ Q .non (upM M p (.lst (ds ++ [x])))
def extD : DMt := fun d es M Q => ∃ p x ds zs, d = .ref p ∧ es = [x] ∧ M p = some (.lst ds) ∧ (x = .tup zs ∨ ∃ q, x = .ref q ∧ M q = some (.lst zs)) ∧ ds.length + zs.length ≤ sizeLine ∧ Q .non (upM M p (.lst (ds ++ zs)))
def popD : DMt := fun d es M Q => ∃ p x ds, d = .ref p ∧ es = [] ∧ M p = some (.lst ds) ∧ ds[ds.length - 1]? = some x ∧ Q x (upM M p (.lst ds.dropLast))
def dMt (f : DMt) (o : DTE) (t : DTA) : DTE := fun s M Q => o s M fun d M1 => (∃ p ds, d = .ref p ∧ LstAt M1 p ds) ∧ t s M1 fun es M2 => f d es M2 Q
def liMt (K : PySem.W.Frag) (B : Bs) (f : DMt) : V → List V → Hp → VK → Prop := fun v vs H Q => ∃ d es M P, DR K H v d ∧ DRs K H vs es ∧ MB K B M H ∧ f d es M P ∧ Wv K B M H P Q
section
variable {X : Cx} {B : Bs} {e o : Expr} {es : List Expr} {te to : DTE} {u : DTA} {pos p apos cpos : Pos}
theorem inP_V {neg : Bool} (hu : X.A.units + 65 < cLine) {pins : List (Addr × Obj)} {s : Shared} {σ : VS} {H : Hp} {x y : V} {v u : Value} {Q : VK} (I : Inv X pins σ H s) (rx : RelV x v) (ry : RelV y u) {a b : D} {M : DHp} {P : Bool → DHp → Prop} (ra : DR X.K H x a) (rb : DR X.K H y b) (m : MB X.K B M H)
    (h : inP neg a b M P) (w : ∀ k M', P k M' → ∀ v H', DR X.K H' v (.bl k) → MB X.K B M' H' → Fr M H M' H' → Q v H') : wpAny (model X.prog X.w) X.A (compareOp (if neg then .NotIn else .In) v u) (EP X pins σ Q) X.xe s := by
  obtain ⟨d, ds, ys, h1, h2, h3, s1, s2, q⟩ := h
  obtain ⟨as, r1⟩ := Dp.reads I d x v (h1.dp m ra) rx
  rcases h2 with rfl | ⟨p, rfl, h2⟩
  · have hy : Dp X.K H y (.tuple ys) := by
      cases rb with
      | tup t r => exact .tup t.sq (h3.dp m r)
    obtain ⟨bs, r2⟩ := Dp.reads I (.tuple ys) y u hy ry
    cases neg with
    | false => exact SeqAt.in_tuple_reads r2 r1 (SeqAt.canLay_of_shaped s2) (SeqAt.canLay_of_shaped s1) (room_in_shaped s1 hu) ⟨.bl _, H, I, rfl, w _ _ q _ _ (.bl _) m (.refl _ _)⟩
    | true => exact SeqAt.notIn_tuple_reads r2 r1 (SeqAt.canLay_of_shaped s2) (SeqAt.canLay_of_shaped s1) (room_in_shaped s1 hu) ⟨.bl _, H, I, rfl, w _ _ q _ _ (.bl _) m (.refl _ _)⟩
  · have hy : Dp X.K H y (.list ys) := by
      cases rb
      obtain ⟨vs, t, r⟩ := listOf m h2
      exact .lst t (h3.dp m r)
    cases neg with
    | false => exact op_inD hu pins s σ H x y v u Q I rx ry ⟨d, ys, h1.dp m ra, hy, s1, shaped_lt s2, w _ _ q _ _ (.bl _) m (.refl _ _)⟩
    | true => exact op_notInD hu pins s σ H x y v u Q I rx ry ⟨d, ys, h1.dp m ra, hy, s1, shaped_lt s2, w _ _ q _ _ (.bl _) m (.refl _ _)⟩
theorem or_in0 (hu : X.A.units + 65 < cLine) : OpR X (compareOp .In) (liQ X.K B (inS false)) := fun pins s σ H x y v u Q I rx ry ⟨a, b, M, P, ra, rb, m, h, w⟩ => by
  have gen : inP false a b M (fun k M1 => P (.bl k) M1) → wpAny (model X.prog X.w) X.A (compareOp .In v u) (EP X pins σ Q) X.xe s := fun h => inP_V (neg := false) hu I rx ry ra rb m h fun k M' p v H' r m' f => w _ _ p v H' r m' f
  cases a with
  | str i =>
    cases b with
    | str j =>
      cases ra
      cases rb
      exact op_in_str pins s σ H _ _ v u Q I rx ry ⟨_, _, rfl, rfl, w _ _ h _ _ (.bl _) m (.refl _ _)⟩
    | _ => exact gen h
  | _ => exact gen h
theorem or_notin0 (hu : X.A.units + 65 < cLine) : OpR X (compareOp .NotIn) (liQ X.K B (inS true)) := fun pins s σ H x y v u Q I rx ry ⟨a, b, M, P, ra, rb, m, h, w⟩ => by
  have gen : inP true a b M (fun k M1 => P (.bl k) M1) → wpAny (model X.prog X.w) X.A (compareOp .NotIn v u) (EP X pins σ Q) X.xe s := fun h => inP_V (neg := true) hu I rx ry ra rb m h fun k M' p v H' r m' f => w _ _ p v H' r m' f
  cases a with
  | str i =>
    cases b with
    | str j =>
      cases ra
      cases rb
      exact op_notIn_str pins s σ H _ _ v u Q I rx ry ⟨_, _, rfl, rfl, w _ _ h _ _ (.bl _) m (.refl _ _)⟩
    | _ => exact gen h
  | _ => exact gen h
theorem room65 {k : Nat} {A : Around} (hr : RoomG k A) : A.units + 65 < cLine := by have := hr.r.un; omega
theorem or_in {k : Nat} (hr : RoomG k X.A) : OpR X (compareOp .In) (liQ X.K B (inS false)) := or_in0 (room65 hr)
theorem or_notin {k : Nat} (hr : RoomG k X.A) : OpR X (compareOp .NotIn) (liQ X.K B (inS true)) := or_notin0 (room65 hr)
/-! methods of lists -/
theorem mt_D {id : String} {f : DMt} {r : V → List V → Hp → VK → Prop} (h : MtR X id r) (i : ∀ v vs H Q, liMt X.K B f v vs H Q → r v vs H Q) : MtR X id (liMt X.K B f) := fun pins s σ H x xs v us Q I rx rxs q => h pins s σ H x xs v us Q I rx rxs (i _ _ _ _ q)
theorem mt_app : MtR X "list.append" (liMt X.K B appD) := mt_D mt_append fun v vs H Q ⟨d, es, M, P, rd, rs, m, ⟨p, x, ds, e1, e2, h1, h2, q⟩, w⟩ => by
  subst e1 e2
  cases rd
  cases rs with
  | cons r t =>
    cases t
    obtain ⟨us, g1, g2⟩ := m.m _ _ h1
    obtain ⟨m2, f2⟩ := m.lput g1 h1 (g2.app (.one r))
    exact ⟨p, us, _, rfl, rfl, g1, by rw [g2.length]; exact h2, w _ _ q _ _ .non m2 f2⟩
theorem mt_ext : MtR X "list.extend" (liMt X.K B extD) := mt_D (MtR.or mt_extend mt_extT) fun v vs H Q ⟨d, es, M, P, rd, rs, m, ⟨p, x, ds, zs, e1, e2, h1, h2, h3, q⟩, w⟩ => by
  subst e1 e2
  cases rd
  cases rs with
  | cons r t =>
    cases t
    obtain ⟨us, g1, g2⟩ := m.m _ _ h1
    rcases h2 with rfl | ⟨b, rfl, h2⟩
    · cases r with
      | tup t r =>
        obtain ⟨m2, f2⟩ := m.lput g1 h1 (g2.app r)
        exact .inr ⟨p, _, us, _, rfl, rfl, g1, t.sq, by rw [g2.length, r.length]; exact h3, w _ _ q _ _ .non m2 f2⟩
    · cases r
      obtain ⟨ws, k1, k2⟩ := m.m _ _ h2
      obtain ⟨m2, f2⟩ := m.lput g1 h1 (g2.app k2)
      exact .inl ⟨p, b, us, ws, rfl, rfl, g1, k1, by rw [g2.length, k2.length]; exact h3, w _ _ q _ _ .non m2 f2⟩
theorem mt_popD : MtR X "list.pop" (liMt X.K B popD) := mt_D mt_pop fun v vs H Q ⟨d, es, M, P, rd, rs, m, ⟨p, x, ds, e1, e2, h1, h2, q⟩, w⟩ => by
  subst e1 e2
  cases rd
  cases rs
  obtain ⟨us, g1, g2⟩ := m.m _ _ h1
  obtain ⟨y, k1, k2⟩ := g2.getD h2
  have g3 : DRs X.K H us.dropLast ds.dropLast := by
    rw [List.dropLast_eq_take, List.dropLast_eq_take, g2.length]
    exact g2.take _
  obtain ⟨m2, f2⟩ := m.lput g1 h1 g3
  exact ⟨p, us, y, rfl, rfl, g1, by rw [g2.length]; exact k1, w _ _ q _ _ (k2.ts f2.s) m2 f2⟩
theorem de_mt {name : Str} {id : String} {f : DMt} (slot : Slot "list" name id) (hty : typeOf (.builtin id) = pure (.type "method_descriptor")) (hm : MtR X id (liMt X.K B f)) (ho : DE X B o to) (ha : DA X B (e :: es) u)
    (hbase : attributeBase o name X.env (eval o X.env) = eval o X.env := by rfl) (hline : (apos.endLine == cpos.line) = true := by rfl)
    (few : ((backTo cpos (starEach (e :: es) X.env)).all (fun z => !z.1) && (backToKw cpos (keywordEach [] X.env)).all (fun z => z.1.isSome) && decide ((e :: es).length + ([] : List Keyword).length + (if ([] : List Keyword).isEmpty then 0 else 1) < 30)) = true := by rfl)
    (hs : starEach (e :: es) X.env = (false, eval e X.env) :: starEach es X.env := by rfl) (hpl : (backTo cpos (starEach es X.env)).any (·.1) = false := by rfl) : DE X B (.Call (.Attribute o name apos) (e :: es) [] cpos) (dMt f to u) :=
  ⟨peI (pe_bm PySem.F.plainAttrs_list slot hty hm ho.run ha.run hbase few hline hs hpl) fun σ H Q ⟨s, M, P, hs, m, h, w⟩ => liE_then hs m h fun d M1 v H1 ⟨⟨p, ds, e1, h1⟩, q⟩ r m1 f1 s1 => by
    subst e1
    cases r
    obtain ⟨vs, t, _⟩ := h1.sq m1
    exact ⟨.inl ⟨rfl, vs, t⟩, liA_then s1 m1 q fun es M2 us H2 q2 r2 m2 f2 s2 => ⟨_, _, M2, P, .ref p, r2, m2, q2, w.go (f1.trans f2)⟩⟩⟩
theorem de_mt0 {name : Str} {id : String} {f : DMt} (slot : Slot "list" name id) (hty : typeOf (.builtin id) = pure (.type "method_descriptor")) (hm : MtR X id (liMt X.K B f)) (ho : DE X B o to)
    (hbase : attributeBase o name X.env (eval o X.env) = eval o X.env := by rfl) (hline : (apos.endLine == cpos.line) = true := by rfl) : DE X B (.Call (.Attribute o name apos) [] [] cpos) (dMt f to aNil) :=
  ⟨peI (pe_bm0 PySem.F.plainAttrs_list slot hty hm ho.run hbase hline) fun σ H Q ⟨s, M, P, hs, m, h, w⟩ => liE_then hs m h fun d M1 v H1 ⟨⟨p, ds, e1, h1⟩, q⟩ r m1 f1 s1 => by
    subst e1
    cases r
    obtain ⟨vs, t, _⟩ := h1.sq m1
    exact ⟨.inl ⟨rfl, vs, t⟩, _, _, M1, P, .ref p, .nil, m1, q, w.go f1⟩⟩
/-! constants of the module -/
theorem de_gint {x : Str} {n : Int} (hm : ∃ t, X.mg x = some (.int n t)) (hg : Gl X x := by rfl) (hd : (x == ("__debug__" : Str)) = false := by decide) : DE X B (.Name x pos) (dC (.int n)) := by
  obtain ⟨t, hm⟩ := hm
  exact de_c (pe_glob (v := .int n) hg hm ⟨t, rfl⟩ hd) fun _ => .int n
/-! list(range(..)), tuple(range(..)) -/
def RgB (a b : Int) : Prop := -(2 ^ 62) ≤ a ∧ a < 2 ^ 62 ∧ -(2 ^ 62) ≤ b ∧ b < 2 ^ 62 ∧ (b - a).toNat ≤ 2 ^ 24
theorem rg_DR {K : PySem.W.Frag} {H : Hp} (a b : Int) : DRs K H (rgV a b) (rgD a b) := by
  unfold rgV rgD
  have : ∀ l : List Nat, DRs K H (l.map fun i => V.int (a + (i : Nat))) (l.map fun i => D.int (a + (i : Nat))) := fun l => by
    induction l with
    | nil => exact .nil
    | cons x l ih => exact .cons (.int _) ih
  exact this _
def dLR1 (t : DTE) : DTE := fun s M Q => t s M fun d M1 => ∃ n, d = .int n ∧ RgB 0 n ∧ ∀ q, M1 q = none → Q (.ref q) (upM M1 q (.lst (rgD 0 n)))
def dTR1 (t : DTE) : DTE := fun s M Q => t s M fun d M1 => ∃ n, d = .int n ∧ RgB 0 n ∧ Q (.tup (rgD 0 n)) M1
theorem de_lstRg1 (hl : X.mg "list" = none) (hm : X.mg "range" = none) (he : DE X B e te) (hc : X.calm = true := by rfl) (hg : Gl X "list" := by rfl) (hg2 : Gl X "range" := by rfl) (na : starEach [e] X.env = (false, eval e X.env) :: starEach [] X.env := by rfl)
    (na2 : starEach [.Call (.Name "range" p) [e] [] pos] X.env = (false, eval (.Call (.Name "range" p) [e] [] pos) X.env) :: starEach [] X.env := by rfl) : DE X B (.Call (.Name "list" apos) [.Call (.Name "range" p) [e] [] pos] [] cpos) (dLR1 te) :=
  ⟨peI (pe_listRg hc hg hl (prg_1 hg2 hm he.run na) na2) fun σ H Q ⟨s, M, P, hs, m, h, w⟩ => liE_then hs m h fun d M1 v H1 ⟨n, e1, hb, q⟩ r m1 f1 s1 => by
    subst e1
    cases r
    refine ⟨n, rfl, hb, fun q' hq => ?_⟩
    obtain ⟨m2, f2⟩ := m1.lnew hq (rg_DR 0 n)
    exact w _ _ (q q' (m1.free hq)) _ _ (.ref q') m2 (f1.trans f2)⟩
theorem de_tupRg1 (hl : X.mg "tuple" = none) (hm : X.mg "range" = none) (he : DE X B e te) (hc : X.calm = true := by rfl) (hg : Gl X "tuple" := by rfl) (hg2 : Gl X "range" := by rfl) (na : starEach [e] X.env = (false, eval e X.env) :: starEach [] X.env := by rfl)
    (na2 : starEach [.Call (.Name "range" p) [e] [] pos] X.env = (false, eval (.Call (.Name "range" p) [e] [] pos) X.env) :: starEach [] X.env := by rfl) : DE X B (.Call (.Name "tuple" apos) [.Call (.Name "range" p) [e] [] pos] [] cpos) (dTR1 te) :=
  ⟨peI (pe_rgN hc hg hl (prg_1 hg2 hm he.run na) na2) fun σ H Q ⟨s, M, P, hs, m, h, w⟩ => liE_then hs m h fun d M1 v H1 ⟨n, e1, hb, q⟩ r m1 f1 s1 => by
    subst e1
    cases r
    refine ⟨n, rfl, hb, fun q' o hq ho => ?_⟩
    obtain ⟨g1, m2, f2⟩ := m1.tnew ho hq (rg_DR 0 n)
    exact w _ _ q _ _ g1 m2 (f1.trans f2)⟩
end
end DL
set_option linter.all false
namespace DL
open PySem PySem.Spec PyProof.Rows L2
/-! what stands in the module -/
structure Zs (mg : Str → Option Value) : Prop where
  isi : mg "isinstance" = none
  int : mg "int" = none
  tup : mg "tuple" = none
  lst : mg "list" = none
  sorted : mg "sorted" = none
  all : mg "all" = none
  any : mg "any" = none
  enum : mg "enumerate" = none
  rng : mg "range" = none
  len : mg "len" = none
  abs : mg "abs" = none
  min : mg "min" = none
  max : mg "max" = none
  zip : mg "zip" = none
  bool : mg "bool" = none
  str : mg "str" = none
  repr : mg "repr" = none
  sum : mg "sum" = none
  rev : mg "reversed" = none
  set : mg "set" = none
structure Df (K : PySem.W.Frag) (mg : Str → Option Value) (x : Str) (st : Stmt) (f : Addr) (fd : FuncData) (ps : List Str) : Prop where
  F : Fun K x x st f fd
  g : mg x = some (.ref f)
  b : Binds K fd ps []
section
variable {P₀ : Program} {w : World} {K : PySem.W.Frag} {mg : Str → Option Value} {base : Heap}
theorem Df.cal {x : Str} {st : Stmt} {f : Addr} {fd : FuncData} {N ps : List Str} {k : Nat} {sp : DSp} (Dd : Df K mg x st f fd ps) (S : FnScope N ps (defScope st)) (len : ∀ ds M P PE, sp ds M P PE → ds.length = ps.length)
    (hbody : ∀ (cdv : Value) (A : Around) (outer : List Env) (s : Shared) (H : Hp) (E : XK) (ds : List D) (M : DHp) (P : DK) (PE : DXK), RoomG k (A.deeper (envOfC x (defScope st) s.heap.objs.size f cdv)) →
      DTk (cxOf (L2.CX P₀ w) P₀ w K mg base N x (defScope st) f cdv A outer s H E) ⟨M, H⟩ (Lx PE) → sp ds M P PE →
      ∃ t, DSs (cxOf (L2.CX P₀ w) P₀ w K mg base N x (defScope st) f cdv A outer s H E) ⟨M, H⟩ (defBody st) t ∧ t { nx := fun _ M' => Lk P .non M', rt := Lk P } (startD N ds) M) : Cal P₀ w K mg base x (k + 1) sp :=
  ⟨f, fd, ps, fn_D Dd.F S len hbody, Dd.g, Dd.F.kp, Dd.b⟩
end
end DL
set_option linter.all false
/-! the law's end, with values: a law whose text makes no table of code objects -/
namespace DL
open PySem PySem.Spec PyProof.Rows L2
/-- no list stands in what the head knows -/
def noLsts (K : PySem.W.Frag) : Bool := K.all fun p => match p.2.cls with | .type "list" => false | _ => true
theorem mem_lookup {a : Addr} {o : Obj} : ∀ {K : PySem.W.Frag}, K.lookup a = some o → (a, o) ∈ K
  | [], e => nomatch e
  | (b, u) :: K, e => by
    rw [List.lookup_cons] at e
    by_cases q : (a == b) = true
    · rw [q] at e
      cases e
      rw [beq_iff_eq.mp q]
      exact List.mem_cons_self
    · rw [Bool.not_eq_true] at q
      rw [q] at e
      exact List.mem_cons_of_mem _ (mem_lookup e)
theorem noLsts.at {K : PySem.W.Frag} (h : noLsts K = true) {a : Addr} {o : Obj} (e : K.lookup a = some o) (c : o.cls = .type "list") : False := by
  have m : (a, o) ∈ K := mem_lookup e
  have z := List.all_eq_true.mp h _ m
  have : (match o.cls with | .type "list" => false | _ => true) = true := z
  rw [c] at this
  cases this
/-- what the law's script is, told as a value -/
def scM (a : Addr) (ns : List Int) : DHp := fun b => if b = a then some (.frz (ns.map D.int)) else none
def LawD (l : PySem.W.OpenLaw) (w : World) (K : PySem.W.Frag) (k n : Nat) (x : Str) (mg : Str → Option Value) (fa : Addr) : Prop :=
  ∃ (fd : FuncData) (sp : DSp), Binds K fd [x] [] ∧ (∀ (a : Addr) (ns : List Int), ns.length ≤ n → (∀ z ∈ ns, Builtin.Int.intBits z ≤ 1048576) → sp [.ref a] (scM a ns) (fun d _ => d = .bl true) fun _ _ => False) ∧
    ∀ base : Heap, K.In base → base.Ns mainGlobals mg → FnD l.prog w K mg base k fa fd [x] sp
theorem drs_ints {K : PySem.W.Frag} {H : Hp} : ∀ ns : List Int, DRs K H (ns.map V.int) (ns.map D.int)
  | [] => .nil
  | n :: ns => .cons (.int n) (drs_ints ns)
section
variable {P : Program} {w : World} {K : PySem.W.Frag} {mg : Str → Option Value}
theorem law_runD {mb : Str → Option Value} {k : Nat} {fa a : Addr} {fd : FuncData} {x : Str} {sp : DSp} {s : Shared} {vs : List Value} {ns : List Int} (rg : RoomG k callerA) (kin : K.In s.heap) (nk : K.lookup a = none) (glob : s.heap.Ns mainGlobals mg) (bn : s.heap.Ns builtinsNs mb)
    (bb : ∀ x : Str, x ≠ "__name__" → mb x = bootBuiltins x) (nl : s.heap.NoLimit) (gens : s.gens = #[]) (obj : s.heap.get? a = some { cls := .type "list", data := .seq vs.toArray }) (inI : IntsAre vs ns) (short : ns.length ≤ sizeLine)
    (F : ∀ base : Heap, K.In base → base.Ns mainGlobals mg → FnD P w K mg base k fa fd [x] sp) (hb : Binds K fd [x] []) (hs : sp [.ref a] (scM a ns) (fun d _ => d = .bl true) fun _ _ => False) :
    codeAny (model P w) callerA (.call (.ref fa) ⟨[.ref a], []⟩) (fun r s' => r = .ok (.ret (.bool true)) ∧ OldK s.heap s'.heap ∧ s'.os = s.os ∧ AllBare s'.gens) s := by
  let O : Obj := { cls := .type "list", data := .seq vs.toArray }
  let H : Hp := fun b => if b = a then some (.frz O (.lst (ns.map V.int))) else none
  have Ha : H a = some (.frz O (.lst (ns.map V.int))) := if_pos rfl
  have Hn : ∀ {b}, b ≠ a → H b = none := fun n => if_neg n
  have off : ∀ {b : Addr} {o : Obj}, s.heap.get? b = some o → o ≠ O → H b = none := fun {b o} e n => Hn fun z => by
    subst z
    exact n (Option.some.inj (e.symm.trans obj))
  have ns_ : ∀ {b : Addr} {m : Str → Option Value}, s.heap.Ns b m → (hidT s.heap H).Ns b m := fun ⟨o, es, ep, e, d, r⟩ => ⟨o, es, ep, hidT_get e (off e fun z => by rw [z] at d; cases d), d, r⟩
  have kin' : K.In (hidT s.heap H) := fun b o e => hidT_get (kin b o e) (Hn fun z => by rw [z, nk] at e; cases e)
  have hok : HOk P w H s.heap := fun b u z => by
    by_cases q : b = a
    · subst q
      have z' := Ha.symm.trans z
      cases z'
      exact ⟨obj, by rw [List.length_map]; exact short, vs, _, vals_ints inI, obj⟩
    · have z' := (Hn q).symm.trans z
      cases z'
  obtain ⟨mc, c1, c2⟩ := nl
  have E : Env0 P w K mg (hidT s.heap H) callerA [] s H :=
    { frames := rfl, mod := ⟨kin', ns_ glob, ⟨mb, ns_ bn, bb⟩, mc, ns_ c1, c2⟩, bs := fun _ _ e => of_hidT e, bsz := Nat.le_of_eq (hidT_size _ _), funs := trivial, frf := fun _ m => absurd m List.not_mem_nil, hok := hok, bare := .of_eq gens }
  have lf : liF K sp [.ref a] H (fun v _ => v = .bl true) fun _ _ _ => False := by
    refine ⟨_, scM a ns, _, _, .cons (.ref a) .nil, fun b o e => ?_, hs, fun d M' q v H' r _ _ => ?_, fun _ _ z => z.elim⟩
    · by_cases q : b = a
      · subst q
        have e' := (if_pos rfl).symm.trans e
        cases e'
        exact ⟨O, _, Ha, drs_ints ns⟩
      · have e' := (if_neg q).symm.trans e
        cases e'
    · subst q
      cases r
      rfl
  have hbt : BindsTo s fd ⟨[.ref a], []⟩ ([x].zip [.ref a]) := by
    have z := hb s [.ref a] kin rfl
    exact z
  refine codeAny_mono ((F _ kin' (ns_ glob)).run callerA [] s H ⟨[.ref a], []⟩ [.ref a] [.ref a] _ _ rg E hbt (.cons rfl .nil) lf) fun r s' z => ?_
  match r, z with
  | .error _, z =>
    have z : (L2.CX P w) [] H s (fun _ _ _ => False) _ s' := z
    obtain ⟨_, _, _, _, _, _, _, _, y⟩ := z
    simp at y
  | .ok .next, z => exact False.elim z
  | .ok .brk, z => exact False.elim z
  | .ok .cont, z => exact False.elim z
  | .ok (.ret u), ⟨v, H', os, bare, un, hok', rel, q⟩ =>
    have q : v = .bl true := q
    subst q
    have rel : u = Value.bool true := rel
    have old : ∀ b o, s.heap.get? b = some o → s'.heap.get? b = some o := fun b o e => by
      by_cases q : b = a
      · subst q
        cases e.symm.trans obj
        exact (hok' _ _ (un.frzs _ _ _ Ha)).1
      · exact un.keep b o e (Hn q) (fun m => absurd (show b ∈ ([] : List Addr) from m) List.not_mem_nil) fun m => absurd m List.not_mem_nil
    exact ⟨by rw [rel], ⟨fun b o e => .inl (old b o e), fun b o e => ⟨o, old b o e⟩⟩, os, bare⟩
end
theorem walk_D {l : PySem.W.OpenLaw} {n k : Nat} {x : Str} {q : Program} {loose : List Str} {XP : (Str → Option Value) → Heap → Prop} {YP : World → Heap → Prop} {d : DefRec} {K : Params → PySem.W.Frag} (hn : l.most = some n) (hn2 : n ≤ sizeLine) (hdf : d.params.defaults = [])
    (rg : RoomG k callerA) (hY : ∀ (w : World) (h : Heap), YP w h → (K w.params).In h) (nol : ∀ w : World, noLsts (K w.params) = true)
    (F : ∀ (w : World) (mg : Str → Option Value) (fa : Addr) (h : Heap), YP w h → (K w.params).In h → h.Ns mainGlobals mg → mg d.name = some (.ref fa) → LawD l w (K w.params) k n x mg fa) : PySem.W.WalkO q loose XP YP l.row.toRowW d [] (fun f vs => PySem.call f vs) :=
  Att.attach_callB hn hdf fun w _ s mg mb fa _ _ _ _ a vs ns G Y _ _ _ hmg obj inI len bits gens => by
    have kin := hY w _ Y
    obtain ⟨fd, sp, hb, hs, hF⟩ := F w mg fa _ Y kin G.T.g hmg
    have nk : (K w.params).lookup a = none := by
      cases e : (K w.params).lookup a with
      | none => rfl
      | some o =>
        have c := kin _ _ e
        rw [obj] at c
        cases c
        exact (noLsts.at (nol w) e rfl).elim
    exact law_runD rg kin nk G.T.g G.T.b G.T.builtins G.T.nolimit gens obj inI (Nat.le_trans len hn2) hF hb (hs a ns len bits)
end DL
set_option linter.all false
/-! several except clauses with names -/
namespace DL
open PySem PySem.Spec PyProof.Rows L2
/-- a clause: the class it names, the slot of its name, its suite -/
structure Cl where
  c : Value
  i : Nat
  ts : Addr → Value → Option Addr → TS
def Cl.ends (k : Cl) (D : Ends) : Ends := { nx := fun σ H => D.nx (σ.set k.i none) H, rt := D.rt, bk := fun σ H => D.bk (σ.set k.i none) H, ct := fun σ H => D.ct (σ.set k.i none) H }
def wCls (K : PySem.W.Frag) (W : WX) (D : Ends) : List Cl → WX
  | [], cls, d, σ, H => W cls d σ H
  | k :: r, cls, d, σ, H => ∃ b, PySem.W.exmOne K cls k.c = some b ∧ match b with
    | true => ∀ a, H a = none → k.ts a cls d (k.ends D) (σ.set k.i (some (.ref a))) H
    | false => wCls K W D r cls d σ H
inductive ClsOk (X : Cx) : List ExceptHandler → List Cl → Prop
  | nil : ClsOk X [] []
  | cons {x n : Str} {k : Cl} {b₀ : Stmt} {suite : List Stmt} {p1 p2 : Pos} {hds : List ExceptHandler} {l : List Cl} : Names X x k.c → X.N[k.i]? = some n → X.env.kindOf n = some .local →
      (∀ (a : Addr) (oe : Obj) (cls : Value) (d : Option Addr) (pn : List (Addr × Obj)), Zc cls d oe → (∃ vs, oe.data = .fields vs) → PSs (X.suite a ((a, oe) :: pn)) (b₀ :: suite) (k.ts a cls d)) → ClsOk X hds l →
      ClsOk X (.ExceptHandler (some (.Name x p1)) (some n) (b₀ :: suite) p2 :: hds) (k :: l)
section
variable {X : Cx} {Wo : WX}
/-- an exception on the ground: the clauses, one after the other -/
theorem cls_go {pins : List (Addr × Obj)} {σ : VS} {H : Hp} {D : Ends} {a : Addr} {B : Heap} {cls : Value} {d : Option Addr} {s0 s : Shared} (hN : X.N.Nodup) (fr : X.A.frames = some (X.env :: X.outer)) (st : X.stack = X.env :: X.outer) (lo : X.env.frame = some X.env.locals) (tk : Takes X Wo) (ok : X.Ok)
    (J : Inv X pins σ H s0) (nb : ∀ b o, s0.heap.get? b = some o → b ∉ frs X.stack → B.get? b = some o) (up : s0.heap.UpToSlots s.heap) (na : H a = none) (os : s.os = s0.os) (ag : AllBare s.gens) (fl : HandSPX.FlyingZ B (X.env :: X.outer) a (Zc cls d) s.heap) :
    ∀ {hds : List ExceptHandler} {l : List Cl}, ClsOk X hds l → wCls X.K Wo D l cls d σ H → wpAny (model X.prog X.w) X.A (handleBy (.ref a) X.env hds) (SP X pins D) X.xe s := by
  obtain ⟨hp, gs, dr, tks, osS⟩ := s
  obtain ⟨o1, v1, g1, z1, d1⟩ := fl.there
  have apart : ∀ {h : Heap} {o : Obj} {vs : Array Value}, HandSPX.FlyingZ B (X.env :: X.outer) a (Zc cls d) h → h.get? a = some o → o.data = .fields vs → a ≠ X.env.locals ∧ a ∉ X.fs := fun {h o vs} f e q => by
    have nm : a ∉ frs (X.env :: X.outer) := fun m => by
      obtain ⟨_, u, e2, nd⟩ := f.2.2.1.mem m
      exact nd _ (by rw [e] at e2; cases e2; exact q)
    refine ⟨fun z => nm ?_, fun m => nm ?_⟩
    · exact List.mem_filterMap.mpr ⟨X.env, .head _, z ▸ lo⟩
    · obtain ⟨e3, m3, q3⟩ := List.mem_filterMap.mp m
      exact List.mem_filterMap.mpr ⟨e3, .tail _ m3, q3⟩
  have ground : ∀ {h : Heap}, HandSPX.FlyingZ B (X.env :: X.outer) a (Zc cls d) h → s0.heap.UpToSlots h → ∃ oe, Zc cls d oe ∧ (∃ vs, oe.data = .fields vs) ∧ h.get? a = some oe ∧ Inv (X.suite a ((a, oe) :: (X.pn ++ pins))) [] σ H ⟨h, gs, dr, tks, osS⟩ := fun {h} f u => by
    obtain ⟨oe, vs, e, z, q⟩ := f.there
    exact ⟨oe, z, ⟨vs, q⟩, e, Inv.suite (J.landed (s' := ⟨h, gs, dr, tks, osS⟩) nb f.1 u os ag) e q na (apart f e q).1 (apart f e q).2⟩
  intro hds l k
  induction k with
  | nil =>
    intro h
    refine wpAny_handleBy_nil ?_
    obtain ⟨q1, q2, q3, oe, vs, T, oT, ts', he, _, hd, h1, _⟩ := id fl
    unfold PySem.passOn
    refine wpAny_bind (wpAny_field he hd h1 ?_)
    rw [if_neg (by simp : ¬ ((Value.ref T == Value.none) = true))]
    have up2 : wpAny (model X.prog X.w) X.A (setFlight (.ref a) X.env.frame) (fun _ t => wpAny (model X.prog X.w) X.A (throw (.ref a) : Sem Flow) (SP X pins D) X.xe t) X.xe ⟨hp, gs, dr, tks, osS⟩ := by
      rw [lo]
      exact HandSPX.setFlight_upZ fl fun h4 held u => wpAny_throw (tk _ _ ⟨a, B, s0, pins, σ, H, cls, d, rfl, J, nb, up.trans u, .inr (.inr (st ▸ held)), na, os, ag, h⟩)
    first
      | exact wpAny_bind up2
      | exact wpAny_bind (wpAny_pure (wpAny_bind up2))
  | @cons x n k b₀ suite p1 p2 hds l hc hi hk hs r ih =>
    rintro ⟨b, hb, h⟩
    obtain ⟨oe, z, dt, e, S⟩ := ground fl up
    have isT : PySem.W.Looks (model X.prog X.w) hp (typeOf (.ref a)) cls := fun _ _ _ _ g q => wpAny_typeOf_ref (g _ _ e) (by rw [z.1]; exact q)
    refine wpAny_handleBy_cons (codeAny_handlers_test ?_) nofun
    have read : ∀ {Q : Value → Shared → Prop} {E : Value → Shared → Prop}, Q k.c ⟨hp, gs, dr, tks, osS⟩ → wpAny (model X.prog X.w) (X.A.mark (some (.ref a))) (eval (.Name x p1) X.env) Q E ⟨hp, gs, dr, tks, osS⟩ := fun q =>
      match hc with
      | ⟨gl, db, .inl m⟩ => ld_glob S gl m q db
      | ⟨gl, db, .inr ⟨m, bv, nn⟩⟩ => ld_blt S gl m bv q nn db
    refine read ((PySem.W.exm_one S.kIn isT hb).here ?_)
    cases b with
    | false => exact ih h
    | true =>
      refine codeAny_handlers_suite_as (HandSPX.lands_againZ fl fun h2 f2 u2 => ?_)
      obtain ⟨oe2, z2, dt2, e2, S2⟩ := ground f2 (up.trans u2)
      refine store_ok (X := X.suite a ((a, oe2) :: (X.pn ++ pins))) (i := k.i) (v := .ref a) S2 hN hi (.inl hk) rfl (fun t St => wpAny_mono ((hs a oe2 cls d _ z2 dt2).run [] t _ H _ St (h a na)) (fun f t2 out => ?_) fun _ _ w => w.elim) (.inr hk)
      have bye : ∀ {σ2 : VS} {H2 : Hp} {Q : Shared → Prop}, Inv (X.suite a ((a, oe2) :: (X.pn ++ pins))) [] σ2 H2 t2 → (∀ t3, Inv X pins (σ2.set k.i none) H2 t3 → Q t3) →
          wpAny (model X.prog X.w) X.A (do bindName X.env n .none; unbindBehindTheSuite X.env n p2) (fun _ t3 => Q t3) X.xe t2 := fun S3 q => gone_ok (S3.unsuite ok) hN hi hk q
      match f, out with
      | .next, ⟨_, _, S3, q⟩ => exact bye S3 fun _ J3 => ⟨_, _, J3, q⟩
      | .brk, ⟨_, _, S3, q⟩ => exact bye S3 fun _ J3 => ⟨_, _, J3, q⟩
      | .cont, ⟨_, _, S3, q⟩ => exact bye S3 fun _ J3 => ⟨_, _, J3, q⟩
      | .ret _, ⟨_, _, _, S3, rv, q⟩ => exact bye S3 fun _ J3 => ⟨_, _, _, J3, rv, q⟩
theorem ps_clauses {body : List Stmt} {h₀ : ExceptHandler} {hds : List ExceptHandler} {l : List Cl} {pos : Pos} {tb : WX → TS} (hN : X.N.Nodup) (st : X.stack = X.env :: X.outer) (lo : X.env.frame = some X.env.locals) (tk : Takes X Wo)
    (hb : ∀ (W : WX) (pn : List (Addr × Obj)) (xe : Value → Shared → Prop), Takes (X.tr pn xe) W → PassesOwn (model X.prog X.w) X.A X.env xe → PSs (X.tr pn xe) body (tb W)) (hh : ClsOk X (h₀ :: hds) l) : PS X (.Try body (h₀ :: hds) [] [] pos) (fun D σ H => tb (wCls X.K Wo D l) D σ H) := by
  refine ⟨fun pins s σ H D I h => wpAny_Try_except ?_⟩
  have fr : X.A.frames = some (X.env :: X.outer) := I.ok.frames.trans (congrArg some st)
  refine wpAny_mono ((hb _ (X.pn ++ pins) (fun e t => wpAny (model X.prog X.w) X.A (noteFrame e X.env) (fun _ t2 => wpAny (model X.prog X.w) X.A (setFlight e none) (fun _ t3 => wpAny (model X.prog X.w) X.A (handleBy e X.env (h₀ :: hds)) (SP X pins D) X.xe t3) X.xe t2) X.xe t)
    (fun u t w => ?_) PassesOwn.looking).run [] s σ H D (I.toTry _) h) (fun f t out => ?_) fun _ _ w => w
  · obtain ⟨a, B, sI, _, σ2, H2, cls, d, rfl, J, nb, up, sky, na, os, ag, w⟩ := w
    refine Sky.land Zc.steady fr lo (by rw [← st]; exact sky) fun h2 fl u2 => ?_
    exact cls_go (s := { t with heap := h2 }) hN fr st lo tk I.ok (J.ofTry I.ok) nb (up.trans u2) na os ag fl hh w
  · match f, out with
    | .next, ⟨_, _, J, q⟩ => exact wpAny_execs_nil ⟨_, _, J.ofTry I.ok, q⟩
    | .brk, ⟨_, _, J, q⟩ => exact ⟨_, _, J.ofTry I.ok, q⟩
    | .cont, ⟨_, _, J, q⟩ => exact ⟨_, _, J.ofTry I.ok, q⟩
    | .ret _, ⟨_, _, _, J, r, q⟩ => exact ⟨_, _, _, J.ofTry I.ok, r, q⟩
end
end DL
set_option linter.all false
/-! several except clauses; isinstance of what is caught; a, b = x, y -/
namespace DL
open PySem PySem.Spec PyProof.Rows L2
structure DCl where
  C : Addr
  P : Addr → Prop
  i : Nat
  ts : Addr → Addr → XD → DTS
def DCl.cl (K : PySem.W.Frag) (B : Bs) (k : DCl) : Cl := ⟨.ref k.C, k.i, vSuite K B k.P k.ts⟩
def DCl.ends (k : DCl) (d : DEn) : DEn := { nx := fun s M => d.nx (s.set k.i none) M, rt := d.rt, bk := fun s M => d.bk (s.set k.i none) M, ct := fun s M => d.ct (s.set k.i none) M }
def wTryL (K : PySem.W.Frag) (W : DWX) (d : DEn) : List DCl → DWX
  | [] => W
  | k :: r => fun x s M => ∃ b, PySem.W.exmOne K (.ref x.cls) (.ref k.C) = some b ∧ ifB b (k.P x.cls ∧ ∀ a dd, M dd = none → k.ts a dd x (k.ends d) (s.set k.i (some (.ref a))) (upM M dd (.xd x.fs))) (wTryL K W d r x s M)
def sTryL (K : PySem.W.Frag) (l : List DCl) (tb : DWX → DTS) (W : DWX) : DTS := fun d s M => tb (wTryL K W d l) d s M
inductive DClsOk (X : Cx) (B : Bs) : List ExceptHandler → List DCl → Prop
  | nil : DClsOk X B [] []
  | cons {x n : Str} {C : Addr} {P : Addr → Prop} {i : Nat} {ts : Addr → Addr → XD → DTS} {b₀ : Stmt} {suite : List Stmt} {p1 p2 : Pos} {hds : List ExceptHandler} {l : List DCl} (hc : Names X x (.ref C)) (hi : X.N[i]? = some n) (hk : X.env.kindOf n = some .local)
      (hs : ∀ (a : Addr) (oe : Obj) (dd : Addr) (pn : List (Addr × Obj)) (y : XD), P y.cls → Zc (.ref y.cls) (some dd) oe → (∃ vs, oe.data = .fields vs) → DSs (X.suite a ((a, oe) :: pn)) B (b₀ :: suite) (ts a dd y)) (r : DClsOk X B hds l) :
      DClsOk X B (.ExceptHandler (some (.Name x p1)) (some n) (b₀ :: suite) p2 :: hds) (⟨C, P, i, ts⟩ :: l)
theorem DClsOk.ok {X : Cx} {B : Bs} {hds : List ExceptHandler} {l : List DCl} (h : DClsOk X B hds l) : ClsOk X hds (l.map (DCl.cl X.K B)) := by
  induction h with
  | nil => exact .nil
  | cons hc hi hk hs r ih =>
    refine .cons (k := DCl.cl X.K B ⟨_, _, _, _⟩) hc hi hk (fun a oe cls dx pn hz hfl => ⟨fun pins s σ H D I ⟨y, dd, hp, e1, e2, h⟩ => ?_⟩) ih
    subst e1 e2
    exact (hs a oe dd pn y hp hz hfl).run.run pins s σ H D I h
theorem wTryL.to {K : PySem.W.Frag} {B : Bs} {W : DWX} {d : DEn} {D : Ends} {M M' : DHp} {H H' : Hp} {c : Value} {dx : Option Addr} {y : XD} {σ' : VS} {s' : DSt} (m : MB K B M H) (w : We K B M H d D) (hs' : SR K H' σ' s') (m' : MB K ⟨M, H⟩ M' H') (r : XR K H M' H' c dx y) :
    ∀ l : List DCl, wTryL K W d l y s' M' → wCls K (liX K B W) D (l.map (DCl.cl K B)) c dx σ' H'
  | [], q => liX.imp m hs' m' r q
  | k :: l, ⟨b, hb1, q⟩ => by
    rw [← r.c] at hb1
    refine ⟨b, hb1, ?_⟩
    cases b with
    | false => exact wTryL.to m w hs' m' r l q
    | true =>
      intro a ha
      obtain ⟨dd, e1, e2, e3, m2, f2⟩ := suite_M m m' r
      have w2 := w.go f2
      exact ⟨y, dd, q.1, e2, e1, _, _, _, SR.set (.ref a) hs', m2, q.2 a dd e3, ⟨fun s4 M4 p σ4 H4 r4 m4 f4 => w2.nx _ _ p _ _ r4.noneAt m4 f4, w2.rt, fun s4 M4 p σ4 H4 r4 m4 f4 => w2.bk _ _ p _ _ r4.noneAt m4 f4, fun s4 M4 p σ4 H4 r4 m4 f4 => w2.ct _ _ p _ _ r4.noneAt m4 f4⟩⟩
theorem ds_tryL {X : Cx} {B : Bs} {W : DWX} {body : List Stmt} {h₀ : ExceptHandler} {hds : List ExceptHandler} {pos : Pos} {l : List DCl} {tb : DWX → DTS} (hN : X.N.Nodup) (hs : X.stack = X.env :: X.outer) (hf : X.env.frame = some X.env.locals) (tk : DTk X B W)
    (hb : ∀ (pn : List (Addr × Obj)) (xe : Value → Shared → Prop) (WD : DWX) (B : Bs), DTk (X.tr pn xe) B WD → PassesOwn (model X.prog X.w) X.A X.env xe → DSs (X.tr pn xe) B body (tb WD))
    (hh : DClsOk X B (h₀ :: hds) l) : DS X B (.Try body (h₀ :: hds) [] [] pos) (sTryL X.K l tb W) := by
  refine ⟨psI (ps_clauses (tb := vBody X.K tb) hN hs hf tk (fun Wv pn xe tk' pass => pss_vBody (X' := X.tr pn xe) (fun WD B' tkd => hb pn xe WD B' tkd pass) tk') hh.ok) fun D σ H ⟨s, M, d, h1, m, h, w⟩ => ?_⟩
  refine ⟨wTryL X.K W d l, ⟨M, H⟩, fun c dx σ' H' ⟨s', M', y, hs', m', r, q⟩ => ?_, s, M, d, h1, ⟨m.m, .refl _ _⟩, h, w.of m⟩
  exact wTryL.to m w hs' m' r l q
/-! isinstance(e, c), e what is caught -/
structure ExI (K : PySem.W.Frag) (C : Addr) : Prop where
  cl : (PySem.W.clsIn K C).isSome = true
  ga : PySem.W.findIn K (.ref C) "__getattribute__" = some (some (.builtin "BaseException.__getattribute__"))
  gg : PySem.W.findIn K (.ref C) "__getattr__" = some none
  sb : PySem.W.subIn K (.ref C) (.type "BaseException") = some true
  ha : PySem.W.findIn K (.ref C) "__class__" = some (some (.builtin "object.__class__"))
  hn : PySem.W.specialIn K (.builtin "object.__class__") "__get__" = some (some (.builtin "getset_descriptor.__get__"))
  tk : PySem.W.takesIn K (.builtin "object.__class__") = some true
  mr : PySem.W.mroIn K C (.type "object") = some true
def rIsX (K : PySem.W.Frag) (D a dd : Addr) : List V → Hp → VK → Prop := fun xs H Q => ∃ (c : V) (cv : Value) (b : Bool) (fs : List (Str × V)), xs = [.ref a, c] ∧ H dd = some (.xd fs) ∧ (∀ u, RelV c u → u = cv) ∧ PySem.W.kitOne K (.ref D) cv = some b ∧ Q (.bl b) H
section
variable {X : Cx} {B : Bs} {a D dd : Addr} {oe : Obj} {pn : List (Addr × Obj)}
theorem call_isX (C : ExI X.K D) (hz : Zc (.ref D) (some dd) oe) (hf : ∃ vs, oe.data = .fields vs) : CallR (X.suite a ((a, oe) :: pn)) (.builtin "isinstance") (rIsX X.K D a dd) := fun pins s σ H xs us Q I r ⟨c, cv, b, fs, e, hd, hcv, k, q⟩ => by
  subst e
  match us, r with
  | [_, _], .cons rx (.cons rt .nil) =>
    cases rx
    cases hcv _ rt
    obtain ⟨get, _⟩ := I.pin (a, oe) (List.mem_append_left _ (.head _))
    obtain ⟨vs, hv⟩ := hf
    obtain ⟨mA, ns, _⟩ := I.hok dd _ hd
    obtain ⟨od, ho, _⟩ := lookIn_ns ns
    have J : PySem.W.InstAt s.heap a oe D (some od) := ⟨get, hz.1, by unfold PySem.W.notCls; rw [hv] <;> rfl, by rw [hz.2]; exact ho⟩
    exact PySem.W.kia_one (PySem.W.kitx_exc C.cl C.ga C.gg C.sb C.ha C.hn C.tk C.mr) I.kIn J k nofun fun tk => ⟨.bl b, H, I.kept (t' := tk) fun _ _ z => z, rfl, q⟩
def dIsX (a dd : Addr) (b : Bool) (t : DTE) : DTE := fun s M Q => t s M fun d M1 => d = .ref a ∧ (∃ fs, M1 dd = some (.xd fs)) ∧ Q (.bl b) M1
theorem de_isX {p p1 p2 : Pos} {c : Value} {v : V} {b : Bool} {x : Str} {y : XD} {e : Expr} {te : DTE} (hm : X.mg "isinstance" = none) (hx : PE (X.suite a ((a, oe) :: pn)) (.Name x p1) (tC v)) (rv : ∀ u, RelV v u → u = c) (C : ExI X.K y.cls) (hk : PySem.W.kitOne X.K (.ref y.cls) c = some b) (hz : Zc (.ref y.cls) (some dd) oe) (hf : ∃ vs, oe.data = .fields vs)
    (he : DE (X.suite a ((a, oe) :: pn)) B e te) (hg : Gl (X.suite a ((a, oe) :: pn)) "isinstance" := by rfl)
    (s1 : starEach [e, .Name x p1] X.env = (false, eval e X.env) :: starEach [.Name x p1] X.env := by rfl) :
    DE (X.suite a ((a, oe) :: pn)) B (.Call (.Name "isinstance" p) [e, .Name x p1] [] p2) (dIsX a dd b te) :=
  ⟨peI (pe_callB (he := s1) (call_isX C hz hf) hg hm (by decide +kernel) (pa_cons he.run (pa_cons hx pa_nil) s1)) fun σ H Q ⟨s, M, P, hs, m, h, w⟩ => liE_then hs m h fun d M1 v' H1 ⟨e1, ⟨fs, e2⟩, q⟩ r m1 f s1 => by
    subst e1
    cases r
    obtain ⟨fv, g1, _⟩ := m1.m _ _ e2
    exact ⟨v, c, b, fv, rfl, g1, rv, hk, w _ _ q _ _ (.bl _) m1 f⟩⟩
end
/-! x, y = a, b -/
def sPar2 (i j : Nat) (t : DTA) : DTS := fun d s M => t s M fun ds M1 => match ds with
  | [x, y] => d.nx ((s.set i (some x)).set j (some y)) M1
  | _ => False
section
variable {X : Cx} {B : Bs}
theorem ds_par2 (i j : Nat) {x y : Str} {a b : Expr} {t : DTA} {px py pt pos : Pos} {kt k2 pt2} (hN : X.N.Nodup) (ha : DA X B [a, b] t) (hc : X.calm = true := by rfl) (hi : X.N[i]? = some x := by rfl) (hj : X.N[j]? = some y := by rfl) (hij : i ≠ j := by decide)
    (hx : X.env.scope.names.lookup x = some .local := by rfl) (hy : X.env.scope.names.lookup y = some .local := by rfl) (hw : swappedStores [.Tuple [.Name x px, .Name y py] kt pt] (.Tuple [a, b] k2 pt2) X.env = pure (some [x, y]) := by rfl)
    (hs : swapsWithSole [.Tuple [.Name x px, .Name y py] kt pt] (.Tuple [a, b] k2 pt2) pos.line X.env = pure false := by rfl) :
    DS X B (.Assign [.Tuple [.Name x px, .Name y py] kt pt] (.Tuple [a, b] k2 pt2) pos) (sPar2 i j t) :=
  ⟨psI (ps_par hc hN hi hj hij hx hy ha.run hw hs) fun D σ H ⟨s, M, d, hs, m, h, w⟩ => liA_then hs m h fun ds M1 vs H1 q r m1 f1 s1 => by
    match ds, r, q with
    | [_, _], .cons (v := v) r1 (.cons (v := u) r2 .nil), q => exact ⟨v, u, rfl, w.nx _ _ q _ _ (SR.set r2 (SR.set r1 s1)) m1 f1⟩⟩
end
end DL
set_option linter.all false
/-! calls with keywords alone -/
namespace DL
open PySem PySem.Spec PyProof.Rows L2
/-- keywords, one after the other -/
structure DKw (X : Cx) (B : Bs) (ks : List Keyword) (t : DTA) : Prop where
  run : PK X ks (liA X.K B t)
/-- how keywords alone are bound, behind n values by position -/
structure KwB (K : PySem.W.Frag) (fd : FuncData) (ps : List Str) (n : Nat) (ks : List Str) (g : ∀ {α : Type}, List α → List α → List α) : Prop where
  to : ∀ (s : Shared) (us ws : List Value), K.In s.heap → us.length = n → ws.length = ks.length → BindsTo s fd ⟨us, ks.zip ws⟩ (ps.zip (g us ws))
  vals : ∀ {vs : List V} {us : List Value} {zs : List V} {ws : List Value}, vs.length = n → zs.length = ks.length → Vals vs us → Vals zs ws → Vals (g vs zs) (g us ws)
  drs : ∀ {K : PySem.W.Frag} {H : Hp} {vs zs : List V} {ds es : List D}, vs.length = n → zs.length = ks.length → DRs K H vs ds → DRs K H zs es → DRs K H (g vs zs) (g ds es)
def dCallK (n : Nat) (g : ∀ {α : Type}, List α → List α → List α) (sp : DSp) (W : DWX) (t : DTA) : DTE := fun s M Q => t s M fun ds M1 => ds.length = n ∧ sp (g [] ds) M1 Q fun x M2 => W x s M2
def dMakeK (n : Nat) (g : ∀ {α : Type}, List α → List α → List α) (C : Addr) (sp : DSp) (W : DWX) (t : DTA) : DTE := fun s M Q => t s M fun ds M1 => ds.length = n ∧ ∀ p, M1 p = none → sp (g [.ref p] ds) (upM M1 p (.ins C [])) (fun v M2 => v = .non ∧ Q (.ref p) M2) fun x M3 => W x s M3
/-- a def by its name, called with keywords -/
structure CalW (P : Program) (w : World) (K : PySem.W.Frag) (mg : Str → Option Value) (base : Heap) (x : Str) (ks : List Str) (g : ∀ {α : Type}, List α → List α → List α) (k : Nat) (sp : DSp) : Prop where
  ex : ∃ (f : Addr) (fd : FuncData) (ps : List Str), FnD P w K mg base k f fd ps sp ∧ mg x = some (.ref f) ∧ PySem.W.keepIn K (.ref f) = true ∧ KwB K fd ps 0 ks g
structure CalKW (P₀ : Program) (w : World) (K : PySem.W.Frag) (mg : Str → Option Value) (base : Heap) (x : Str) (C : Addr) (ks : List Str) (g : ∀ {α : Type}, List α → List α → List α) (k : Nat) (sp : DSp) : Prop where
  gm : mg x = some (.ref C)
  ex : ∃ (f : Addr) (fd : FuncData) (ps : List Str), FnD P₀ w K mg base k f fd ps sp ∧ Mk K C f ∧ KwB K fd ps 1 ks g
section
variable {X : Cx} {B : Bs} {W : DWX} {k : Nat} {sp : DSp} {C : Addr} {x : Str} {kws : List Keyword} {ks : List Str} {g : ∀ {α : Type}, List α → List α → List α} {u : DTA} {p pos : Pos} {e : Expr} {te : DTE} {nm : Option Str} {kp : Pos}
theorem dk_nil : DKw X B [] aNil := ⟨⟨fun pos pins s σ H Q I ⟨s0, M, P, hs, hm, h, w⟩ => pk_nil.run pos pins s σ H Q I (w _ _ h _ _ .nil hm (.refl _ _))⟩⟩
theorem dk_cons (h : DE X B e te) (hr : DKw X B kws u) : DKw X B (⟨nm, e, kp⟩ :: kws) (aCons te u) :=
  ⟨⟨fun pos pins s σ H Q I ⟨s0, M, P, hs, hm, q, w⟩ => (pk_cons h.run hr.run).run pos pins s σ H Q I (liE_then hs hm q fun d M1 v H1 p r m f s1 => liA_then s1 m p fun ds M2 vs H2 p2 r2 m2 f2 s2 => w _ _ p2 _ _ (.cons (r.ts f2.s) r2) m2 (f.trans f2))⟩⟩
/-- a def runs with what binds to us -/
theorem run_G {A : Around} {f : Addr} {fd : FuncData} {ps : List Str} {pins : List (Addr × Obj)} {s : Shared} {σ : VS} {H : Hp} {Q : VK} {args : Args} {us : List Value} {vs : List V} {s0 : DSt} {M : DHp} {ds : List D} {P : DK} (F : FnD X.prog X.w X.K X.mg X.base k f fd ps sp) (rg : RoomG k A) (e0 : Env0 X.prog X.w X.K X.mg X.base A X.stack s H) (tk : DTk X B W)
    (hb : BindsTo s fd args (ps.zip us)) (I : Inv X pins σ H s) (r : Vals vs us) (rs : DRs X.K H vs ds) (hs : SR X.K H σ s0) (m : MB X.K B M H) (h : sp ds M P fun x M2 => W x s0 M2) (w : Wv X.K B M H P Q) :
    codeAny (model X.prog X.w) A (.call (.ref f) args) (fun out s' => match out with
      | .ok (.ret v) => EP X pins σ Q v s'
      | .ok _ => False
      | .error er => X.xe er s') s := by
  refine codeAny_mono (F.run A X.stack s H args us vs Q (fun c dx H' => liX X.K B W c dx σ H') rg e0 hb r ⟨ds, M, P, _, rs, m.m, h, fun d M' q v H' a b c => w d M' q v H' a ⟨b, m.b.trans c⟩ c, fun x M' q c dx H' a b g => ⟨s0, M', x, hs.ts g.s, ⟨b, m.b.trans g⟩, a.old m.b.s, q⟩⟩) fun out s' hq => ?_
  match out, hq with
  | .error er, hq => exact tk er s' (XE.of_call I (fun _ _ _ z => z) hq)
  | .ok (.ret v), hq => exact I.after hq
theorem de_callk (G : CalW X.prog X.w X.K X.mg X.base x ks g k sp) (rg : RoomG k X.A) (tk : DTk X B W) (ha : DKw X B kws u) (hg : Gl X x := by rfl) (hdb : (x == ("__debug__" : Str)) = false := by decide)
    (h1 : (backToKw pos (keywordEach kws X.env)).all (·.1.isSome) = true := by rfl) (h2 : (backToKw pos (keywordEach kws X.env)).filterMap (·.1) = ks := by rfl)
    (h3 : ((backTo pos (starEach [] X.env)).any (·.1) || (backToKw pos (keywordEach kws X.env)).any (·.1.isNone)) = false := by rfl) : DE X B (.Call (.Name x p) [] kws pos) (dCallK ks.length g sp W u) := by
  obtain ⟨f, fd, ps, F, hm, kp, hb⟩ := G.ex
  refine ⟨⟨fun pins s σ H Q I ⟨s0, M, P, hs, m, h, w⟩ => wpAny_Call_Name_kw (ld_glob I hg hm ?_ hdb)⟩⟩
  refine PySem.W.callWith_KW0 (h₀ := X.base) I.ok.mod.kin kp h1 (thn (ha.run.run pos pins s σ H _ I (liA_then hs m h fun ds M1 vs H1 q r m1 f1 s1 => (⟨ds, M1, P, r, s1, m1, q, w.go f1⟩ : ∃ ds M1 P1, DRs X.K H1 vs ds ∧ SR X.K H1 σ s0 ∧ MB X.K B M1 H1 ∧ (ds.length = ks.length ∧ sp (g [] ds) M1 P1 (fun x M2 => W x s0 M2)) ∧ Wv X.K B M1 H1 P1 Q))) fun ws s1 ⟨vs, H1, I1, r, ds, M1, P1, rs, hs1, m1, q, w1⟩ => ⟨I1.kIn, ?_⟩) h3
  rw [h2]
  have l1 : vs.length = ks.length := rs.length.trans q.1
  have hv : Vals (g [] vs) (g [] ws) := hb.vals (vs := []) (us := []) rfl l1 .nil r
  refine wpAny_call (codeAny_mono (run_G F rg I1.env0 tk (hb.to s1 [] ws I1.kIn rfl (r.length.symm.trans l1)) I1 hv (hb.drs (vs := []) (ds := []) rfl l1 .nil rs) hs1 m1 q.2 w1) fun out s' hq => ?_)
  match out, hq with
  | .error _, hq => exact hq
  | .ok (.ret _), hq => exact hq
theorem make_guardsK {A : Around} {us : List Value} {kw : List (Str × Value)} (h : A.guards = some []) : (A.under (.builtin "type.__call__" ⟨.ref C :: us, kw⟩)).guards = some [] := make_guards h
theorem de_makek (G : CalKW X.prog X.w X.K X.mg X.base x C ks g k sp) (rg : RoomG (k + 1) X.A) (tk : DTk X B W) (ha : DKw X B kws u) (hg : Gl X x := by rfl) (hdb : (x == ("__debug__" : Str)) = false := by decide)
    (h1 : (backToKw pos (keywordEach kws X.env)).all (·.1.isSome) = true := by rfl) (h2 : (backToKw pos (keywordEach kws X.env)).filterMap (·.1) = ks := by rfl)
    (h3 : ((backTo pos (starEach [] X.env)).any (·.1) || (backToKw pos (keywordEach kws X.env)).any (·.1.isNone)) = false := by rfl) : DE X B (.Call (.Name x p) [] kws pos) (dMakeK ks.length g C sp W u) := by
  obtain ⟨f, fd, ps, F, Mk, hb⟩ := G.ex
  refine ⟨⟨fun pins s σ H Q I ⟨s0, M, P, hs, m, h, w⟩ => wpAny_Call_Name_kw (ld_glob I hg G.gm ?_ hdb)⟩⟩
  refine PySem.W.callWith_KW0 (h₀ := X.base) I.ok.mod.kin Mk.kp h1 (thn (ha.run.run pos pins s σ H _ I (liA_then hs m h fun ds M1 vs H1 q r m1 f1 s1 => (⟨ds, M1, P, r, s1, m1, q, w.go f1⟩ : ∃ ds M1 P1, DRs X.K H1 vs ds ∧ SR X.K H1 σ s0 ∧ MB X.K B M1 H1 ∧ (ds.length = ks.length ∧ ∀ p, M1 p = none → sp (g [.ref p] ds) (upM M1 p (.ins C [])) (fun v M2 => v = .non ∧ P1 (.ref p) M2) fun x M3 => W x s0 M3) ∧ Wv X.K B M1 H1 P1 Q))) fun ws s1 ⟨vs, H1, I1, r, ds, M1, P1, rs, hs1, m1, q, w1⟩ => ⟨I1.kIn, ?_⟩) h3
  rw [h2]
  have l1 : vs.length = ks.length := rs.length.trans q.1
  have I2 := Inv.made (C := C) I1
  have nx := I1.hok.fresh (Nat.le_succ s1.heap.objs.size)
  have nd := I1.hok.fresh (Nat.le_refl s1.heap.objs.size)
  obtain ⟨m2, f2⟩ := m1.made (C := C) nx nd (Nat.ne_of_lt (Nat.lt_succ_self _))
  have w2 : Wv X.K B (upM M1 (s1.heap.objs.size + 1) (.ins C [])) _ (fun v M2 => v = .non ∧ P1 (.ref (s1.heap.objs.size + 1)) M2) (fun v H' => v = .non ∧ Q (.ref (s1.heap.objs.size + 1)) H') := fun d M' ⟨e, q⟩ v H' r' m' f' => by
    subst e
    cases r'
    exact ⟨rfl, w1 _ _ q _ _ (.ref _) m' (f2.trans f')⟩
  have one : Vals [V.ref (s1.heap.objs.size + 1)] [Value.ref (s1.heap.objs.size + 1)] := .cons rfl .nil
  have bs := hb.to _ [Value.ref (s1.heap.objs.size + 1)] ws I2.kIn rfl (r.length.symm.trans l1)
  refine wpAny_call (L2.make_map (f := f) I1.kIn Mk.makes Mk.init (beq_iff_eq.mp Mk.fn) (codeAny_mono (run_G (us := g [Value.ref (s1.heap.objs.size + 1)] ws) F ⟨rg.r.make C [] (ks.zip ws), make_guards rg.g⟩ (I2.env0.make C [] (ks.zip ws)) tk bs I2 (hb.vals rfl l1 one r) (hb.drs rfl l1 (.one (.ref _)) (rs.ts f2.s)) (hs1.ts f2.s) m2 (q.2 _ (m1.free nx)) w2) fun out s' hq => ?_))
  match out, hq with
  | .error _, hq => exact hq
  | .ok (.ret v), hq =>
    obtain ⟨v', H', I3, rv, ev, q3⟩ := hq
    subst ev
    exact ⟨rv, ⟨V.ref _, H', I3, rfl, q3⟩⟩
end
end DL
set_option linter.all false
/-! a != b, both of an own class that has an own __eq__ -/
namespace DL
open PySem PySem.Spec PyProof.Rows L2
/-- an own class with an own __eq__ and no own __ne__, base object -/
structure ClsE (K : PySem.W.Frag) (C f : Addr) : Prop where
  cls : ∃ (nm q : Str) (N : Addr) (bs : List Value) (hdct : Bool) (sn : List Str) (sub : List Value) (ab : Bool) (col : Option Bool) (dd : Option Addr) (k0 k1 k2 k3 k5 : Option Value), K.lookup C = some (excClassObj nm q C N bs [.type "object"] hdct sn sub ab col dd k0 k1 k2 k3 k5 "object.__new__") ∧
    ∃ (o : Obj) (es : Array DictEntry) (ep : Nat), K.lookup N = some o ∧ o.data = .dict es ep ∧ StrKeys es ∧ nsFind es "__eq__" = some (.ref f) ∧ nsFind es "__ne__" = none
  fn : ∃ o : Obj, K.lookup f = some o ∧ o.cls = .type "function"
theorem ClsE.own {K : PySem.W.Frag} {C f x : Addr} {h : Heap} {o : Obj} (c : ClsE K C f) (kin : K.In h) (e : h.get? x = some o) (q : o.cls = .ref C) : h.OwnEqNoNe x C f "object" [.type "object"] := by
  obtain ⟨nm, q', N, bs, hdct, sn, sub, ab, col, dd, k0, k1, k2, k3, k5, hC, oN, es, ep, hN, hd, sk, he, hne⟩ := c.cls
  obtain ⟨of, hf, hfc⟩ := c.fn
  exact ⟨o, of, nm, q', N, bs, hdct, sn, sub, ab, col, dd, k0, k1, k2, k3, k5, "object.__new__", fun z => nsFind es z, _, e, q, kin _ _ hC, ⟨oN, es, ep, kin _ _ hN, hd, sk, fun _ => rfl⟩, he, kin _ _ hf, hfc, PySem.F.cmp_object.mro, PySem.F.cmp_object.eq.lookup, hne⟩
/-- the method __eq__, its place told -/
structure CalE (P₀ : Program) (w : World) (K : PySem.W.Frag) (mg : Str → Option Value) (base : Heap) (C : Addr) (k : Nat) (sp : DSp) : Prop where
  ex : ∃ (f : Addr) (fd : FuncData) (ps : List Str), FnD P₀ w K mg base k f fd ps sp ∧ ClsE K C f ∧ Binds K fd ps []
def neO (C : Addr) (sp : DSp) : DCm := fun a b M Q => neD a b M Q ∨ ∃ p q fs gs, a = .ref p ∧ b = .ref q ∧ M p = some (.ins C fs) ∧ M q = some (.ins C gs) ∧ sp [a, b] M (fun v M2 => ∃ k, v = .bl k ∧ Q (!k) M2) fun _ _ => False
theorem or_neO {X : Cx} {B : Bs} {C : Addr} {k : Nat} {sp : DSp} (G : CalE X.prog X.w X.K X.mg X.base C k sp) (rg : RoomG (k + 1) X.A) : OpR X (compareOp .NotEq) (liQ X.K B (neO C sp)) := fun pins s σ H x y v u Q I rx ry ⟨a, b, M, P, ra, rb, m, h, w⟩ => by
  obtain ⟨f, fd, ps, F, T, hb⟩ := G.ex
  rcases h with h | ⟨p, q, fs, gs, e1, e2, h1, h2, h⟩
  · exact or_ne (by have := rg.r.un; omega) pins s σ H x y v u Q I rx ry ⟨a, b, M, P, ra, rb, m, h, w⟩
  · subst e1 e2
    cases ra
    cases rb
    cases rx
    cases ry
    obtain ⟨dx, fv, g1, g2⟩ := m.m _ _ h1
    obtain ⟨dy, gv, g3, g4⟩ := m.m _ _ h2
    obtain ⟨_, O1, _⟩ := ins_get I.hok g1
    obtain ⟨_, O2, _⟩ := ins_get I.hok g3
    obtain ⟨_, J1, _⟩ := O1.look
    obtain ⟨_, J2, _⟩ := O2.look
    have own := T.own I.kIn J1.at_ J1.cls
    have two : Vals [V.ref p, V.ref q] [Value.ref p, Value.ref q] := .cons rfl (.cons rfl .nil)
    have run := call_A (run_A (W := W0) F rg.in1 I.env0.in1 tk0 hb I two (.cons (.ref p) (.one (.ref q))) (SR.blank σ) m h (Q := fun v H2 => ∃ k, v = .bl k ∧ Q (.bl (!k)) H2) fun d M2 ⟨k, e1, q⟩ v H2 r' m' f' => by
      subst e1
      cases r'
      exact ⟨k, rfl, w _ _ q _ _ (.bl _) m' f'⟩)
    obtain ⟨hp, gn, dr, t, os⟩ := s
    refine compareOp_ne_ownEq PySem.F.cmp_object own J2.at_ J2.cls (by have := rg.r.un; omega) (wpAny_mono run (fun u s2 z => ?_) fun _ _ z => z)
    obtain ⟨v, H2, I2, rv, k, e1, q⟩ := z
    subst e1
    exact ⟨k, rv, .bl (!k), H2, I2, rfl, q⟩
end DL
set_option linter.all false
/-! shorter forms, as the printer of terms wants them -/
namespace DL
open PySem PySem.Spec PyProof.Rows L2
theorem names_g {X : Cx} {x : Str} {c : Value} (hm : X.mg x = some c) (hg : Gl X x := by rfl) (hdb : (x == ("__debug__" : Str)) = false := by decide) : Names X x c := ⟨hg, hdb, .inl hm⟩
section
variable {P₀ : Program} {w : World} {K : PySem.W.Frag} {mg : Str → Option Value} {base : Heap} {x f : Str} {C : Addr} {y : XD}
theorem ExK.xf (T : ExK P₀ w K mg base x C f) (hp : y.cls = C) : XfC K y.cls := hp ▸ T.X
theorem ExK.nf (T : ExK P₀ w K mg base x C f) (hp : y.cls = C) : PySem.W.findIn K (.ref y.cls) f = some none := hp ▸ T.nof
theorem ExI.of (T : ExI K C) (hp : y.cls = C) : ExI K y.cls := hp ▸ T
theorem kit_at {c : Value} {b : Bool} (h : PySem.W.kitOne K (.ref C) c = some b) (hp : y.cls = C) : PySem.W.kitOne K (.ref y.cls) c = some b := hp ▸ h
end
section
variable {X : Cx} {B : Bs} {a dd C : Addr} {oe : Obj} {pn : List (Addr × Obj)} {p p1 p2 : Pos} {b : Bool} {x : Str} {y : XD} {e : Expr} {te : DTE}
/-- isinstance(e, D), D an own class -/
theorem de_isXg {D : Addr} (hm : X.mg "isinstance" = none) (hx : X.mg x = some (.ref D)) (T : ExI X.K C) (hk : PySem.W.kitOne X.K (.ref C) (.ref D) = some b) (hp : y.cls = C) (hz : Zc (.ref y.cls) (some dd) oe) (hf : ∃ vs, oe.data = .fields vs) (he : DE (X.suite a ((a, oe) :: pn)) B e te)
    (hg : Gl (X.suite a ((a, oe) :: pn)) "isinstance" := by rfl) (hg2 : Gl (X.suite a ((a, oe) :: pn)) x := by rfl) (hdb : (x == ("__debug__" : Str)) = false := by decide)
    (s1 : starEach [e, .Name x p1] X.env = (false, eval e X.env) :: starEach [.Name x p1] X.env := by rfl) : DE (X.suite a ((a, oe) :: pn)) B (.Call (.Name "isinstance" p) [e, .Name x p1] [] p2) (dIsX a dd b te) :=
  de_isX (v := .ref D) (c := .ref D) hm (pe_glob (X := X.suite a ((a, oe) :: pn)) (v := .ref D) hg2 hx rfl hdb) (fun _ r => r) (T.of hp) (kit_at hk hp) hz hf he hg s1
/-- isinstance(e, T), T a built-in class -/
theorem de_isXb {T' : String} (hm : X.mg "isinstance" = none) (hx : X.mg x = none) (T : ExI X.K C) (hk : PySem.W.kitOne X.K (.ref C) (.type T') = some b) (hp : y.cls = C) (hz : Zc (.ref y.cls) (some dd) oe) (hf : ∃ vs, oe.data = .fields vs) (he : DE (X.suite a ((a, oe) :: pn)) B e te)
    (hv : bootBuiltins x = some (.type T') := by decide +kernel) (hg : Gl (X.suite a ((a, oe) :: pn)) "isinstance" := by rfl) (hg2 : Gl (X.suite a ((a, oe) :: pn)) x := by rfl) (hn : x ≠ "__name__" := by decide) (hdb : (x == ("__debug__" : Str)) = false := by decide)
    (s1 : starEach [e, .Name x p1] X.env = (false, eval e X.env) :: starEach [.Name x p1] X.env := by rfl) : DE (X.suite a ((a, oe) :: pn)) B (.Call (.Name "isinstance" p) [e, .Name x p1] [] p2) (dIsX a dd b te) :=
  de_isX (v := .ty T') (c := .type T') hm (pe_bltn (X := X.suite a ((a, oe) :: pn)) (v := .ty T') hg2 hx hv rfl hn hdb) (fun _ r => r) (T.of hp) (kit_at hk hp) hz hf he hg s1
end
end DL
set_option linter.all false
/-! comprehensions with two clauses; x op= e -/
namespace DL
open PySem PySem.Spec PyProof.Rows L2
def dLc2 (wi : DTI) (g : DTG) (tt : DTT) (wi1 : DTI) (g1 : DTG) (tt1 : DTT) (te : DTE) (own vs1 : List Nat) : DTE := fun s M Q => wi s M fun J M1 => ∃ Pv : Nat → List D → DHp → Prop, (∃ M2, Les M2 M1 ∧ Pv 0 [] M2) ∧ (∀ i acc M, i ≤ J.xs.length → Pv i acc M → J.ok M) ∧
  (∀ i x acc M, J.xs[i]? = some x → Pv i acc M → g x (wipeD s own) M fun s2 M2 => tt s2 M2 fun b M3 => ifB b
    (wi1 s2 M3 fun J1 M4 => ∃ Pw : Nat → List D → DHp → Prop, (∃ M5, Les M5 M4 ∧ Pw 0 acc M5) ∧ (∀ j acc M, j ≤ J1.xs.length → Pw j acc M → J1.ok M) ∧
      (∀ j y acc M, J1.xs[j]? = some y → Pw j acc M → g1 y (wipeD s2 vs1) M fun s3 M5 => tt1 s3 M5 fun b M6 => ifB b (te s3 M6 fun z M7 => acc.length < sizeLine ∧ ∃ M8, Les M8 M7 ∧ Pw (j + 1) (acc ++ [z]) M8) (∃ M8, Les M8 M6 ∧ Pw (j + 1) acc M8)) ∧
      ∀ acc M, Pw J1.xs.length acc M → ∃ M8, Les M8 M ∧ Pv (i + 1) acc M8)
    (∃ M5, Les M5 M3 ∧ Pv (i + 1) acc M5)) ∧ ∀ acc M, Pv J.xs.length acc M → ∀ p, M p = none → Q (.ref p) (upM M p (.lst acc))
/-- the list that is made stands at L0 and is not told -/
structure Ac (K : PySem.W.Frag) (B : Bs) (M : DHp) (H : Hp) (L0 : Addr) (acc : List D) (vs : List V) (M' : DHp) (H' : Hp) : Prop where
  h : H' L0 = some (.lst vs)
  r : DRs K H' vs acc
  n : M' L0 = none
  m : MB K B M' H'
  f : Fr M H M' H'
section
variable {K : PySem.W.Frag} {B : Bs} {M M' M2 : DHp} {H H' H2 : Hp} {L0 : Addr} {acc : List D} {vs : List V}
theorem Ac.go (a : Ac K B M H L0 acc vs M' H') (m : MR K M2 H2) (f : Fr M' H' M2 H2) : Ac K B M H L0 acc vs M2 H2 :=
  let ⟨h1, h2⟩ := f.k L0 _ a.h a.n
  ⟨h1, a.r.ts f.s, h2, ⟨m, a.m.b.trans f⟩, a.f.trans f⟩
theorem Ac.les (a : Ac K B M H L0 acc vs M' H') (l : Les M2 M') : Ac K B M H L0 acc vs M2 H' := ⟨a.h, a.r, l.free a.n, a.m.les l, a.f.les l⟩
/-- where L0 was free -/
theorem fr_at {o : HO} (f : Fr M H M' H') (hn : H L0 = none) (t : TS0 H' (upd H' L0 o)) : Fr M H M' (upd H' L0 o) :=
  ⟨f.s.trans t, fun a u z n => by
    obtain ⟨z1, z2⟩ := f.k a u z n
    exact ⟨(upd_ne fun e => by subst e; rw [hn] at z; cases z).trans z1, z2⟩⟩
theorem Ac.app {y : D} {v : V} (a : Ac K B M H L0 acc vs M' H') (hB : B.H L0 = none) (hH : H L0 = none) (r : DR K H' v y) : Ac K B M H L0 (acc ++ [y]) (vs ++ [v]) M' (upd H' L0 (.lst (vs ++ [v]))) := by
  have t : TS0 H' (upd H' L0 (.lst (vs ++ [v]))) := ts_put a.h
  exact ⟨upd_same, (a.r.ts t).app (.one (r.ts t)), a.n, ⟨fun b o z => (a.m.m b o z).ts t (upd_ne fun e => by subst e; rw [a.n] at z; cases z), fr_at a.m.b hB t⟩, fr_at a.f hH t⟩
theorem fr_up {o : DO} (f : Fr M H M' H') (hn : H L0 = none) : Fr M H (upM M' L0 o) H' :=
  ⟨f.s, fun a u z n => by
    obtain ⟨z1, z2⟩ := f.k a u z n
    exact ⟨z1, (upM_ne fun e => by subst e; rw [hn] at z; cases z).trans z2⟩⟩
end
section
variable {X : Cx} {B : Bs} {elt tg iter tg1 iter1 : Expr} {ifs ifs1 : List Expr} {scope : Scope} {own : List (Str × Nat)} {pos : Pos} {wi wi1 : DTI} {tv tv1 : TG} {g g1 : DTG} {tt tt1 : DTT} {te : DTE} {vs1 : List Nat}
theorem wipe_idem {σ σ3 : VS} {vs : List Nat} (wp : wipe σ3 vs = wipe (wipe σ vs) vs) : wipe σ3 vs = wipe σ vs := by
  rw [wp]
  refine List.ext_getElem? fun j => ?_
  rw [wipe_get, wipe_get, wipe_length]
  by_cases hj : j ∈ vs
  · rw [if_pos hj, if_pos hj]
  · rw [if_neg hj, if_neg hj]
theorem lc2_imp {σ : VS} {H : Hp} {Q : VK} (hct : CtOk X.K tv g (own.map (·.2))) (hct1 : CtOk X.K tv1 g1 vs1) (h : liE X.K B (dLc2 wi g tt wi1 g1 tt1 te (own.map (·.2)) vs1) σ H Q) :
    tLc2 (liI X.K B wi) tv (liT X.K B tt) (liI X.K B wi1) tv1 (liT X.K B tt1) (liE X.K B te) (own.map (·.2)) vs1 σ H Q := by
  obtain ⟨s, M, P, hs, m, h, w⟩ := h
  refine ⟨s, M, _, hs, m, h, fun J M1 ⟨Pv, ⟨M2, l2, p0⟩, hok, hst, hend⟩ it H1 itd m1 f1 L0 hD => ?_⟩
  have hMD : M1 L0 = none := m1.free hD
  have hB : B.H L0 = none := m1.b.s.d _ hD
  have hH : H L0 = none := f1.s.d _ hD
  obtain ⟨m1', f1'⟩ := m1.hid (o := .lst []) hD
  let I0 : Nat → Hp → Prop := fun i H' => ∃ acc vs M', Ac X.K B M H L0 acc vs M' H' ∧ TS0 H1 H' ∧ Pv i acc M'
  refine ⟨fun i k H' => k = J.xs.length - i ∧ i ≤ J.xs.length ∧ I0 i H', ⟨_, rfl, Nat.zero_le _, [], [], M2, ⟨upd_same, .nil, l2.free hMD, m1'.les l2, (f1.trans f1').les l2⟩, f1'.s, p0⟩, ?_⟩
  rintro i k H' ⟨rfl, hi, acc, vs, M', a, e', pv⟩
  have ok := hok i acc M' hi pv
  by_cases hlt : i < J.xs.length
  · refine .inr ⟨itd.go i M' H' e' a.m.m ok hlt, fun H2 => I0 (i + 1) H2, fun H2 q => ⟨_, by omega, rfl, hlt, q⟩, fun x H2 y => ?_⟩
    obtain ⟨dx, hx, rx, m2, f2⟩ := itd.yld i M' H' x H2 e' a.m.m ok hlt y
    have a2 := a.go m2 f2
    refine hct x dx _ H2 _ M' _ _ rx ((hs.ts a2.f.s).wipes _) m2 (hst i dx acc M' hx pv) fun σ3 s3 q3 r3 wp => ⟨wipe_idem wp, ?_⟩
    refine liT_then r3 a2.m q3 fun b M3 H3 q m3 f3 s4 => ifB_ite ?_
    have a3 := a2.go m3.m f3
    have e3 := (e'.trans f2.s).trans f3.s
    cases b with
    | false =>
      obtain ⟨M5, l5, q⟩ := q
      exact ⟨acc, vs, M5, a3.les l5, e3, q⟩
    | true =>
      refine ⟨s3, M3, _, s4, m3, q, fun J1 M4 ⟨Pw, ⟨M5, l5, w0⟩, wok, wst, wend⟩ it1 H4 itd1 m4 f4 => ?_⟩
      have a4 := a3.go m4.m f4
      have e4 := e3.trans f4.s
      have s44 := s4.ts f4.s
      let I1 : Nat → Hp → Prop := fun j H' => ∃ acc vs M', Ac X.K B M H L0 acc vs M' H' ∧ TS0 H4 H' ∧ Pw j acc M'
      refine ⟨fun j k H' => k = J1.xs.length - j ∧ j ≤ J1.xs.length ∧ I1 j H', ⟨_, rfl, Nat.zero_le _, acc, vs, M5, a4.les l5, .refl _, w0⟩, ?_⟩
      rintro j k H5 ⟨rfl, hj, acc5, vs5, M6, a5, e5, pw⟩
      have ok1 := wok j acc5 M6 hj pw
      by_cases hlt1 : j < J1.xs.length
      · refine .inr ⟨itd1.go j M6 H5 e5 a5.m.m ok1 hlt1, fun H2 => I1 (j + 1) H2, fun H2 q => ⟨_, by omega, rfl, hlt1, q⟩, fun x1 H6 y1 => ?_⟩
        obtain ⟨dy, hy, ry, m6, f6⟩ := itd1.yld j M6 H5 x1 H6 e5 a5.m.m ok1 hlt1 y1
        have a6 := a5.go m6 f6
        refine hct1 x1 dy _ H6 _ M6 _ _ ry ((s44.ts (e5.trans f6.s)).wipes _) m6 (wst j dy acc5 M6 hy pw) fun σ5 s5 q5 r5 wp5 => ⟨wipe_idem wp5, ?_⟩
        refine liT_then r5 a6.m q5 fun b M7 H7 q7 m7 f7 s7 => ifB_ite ?_
        have a7 := a6.go m7.m f7
        have e7 := (e5.trans f6.s).trans f7.s
        cases b with
        | false =>
          obtain ⟨M8, l8, q⟩ := q7
          exact ⟨acc5, vs5, M8, a7.les l8, e7, q⟩
        | true =>
          refine liE_then s7 m7 q7 fun z M8 v H8 q8 r8 m8 f8 s8 => ?_
          obtain ⟨hz, M9, l9, q9⟩ := q8
          have a8 := a7.go m8.m f8
          have a9 := a8.app hB hH r8
          exact ⟨vs5, a8.h, by rw [a8.r.length]; exact hz, _, _, M9, a9.les l9, (e7.trans f8.s).trans (ts_put a8.h), q9⟩
      · obtain rfl : j = J1.xs.length := by omega
        obtain ⟨M8, l8, q⟩ := wend acc5 M6 pw
        exact .inl ⟨itd1.stop M6 H5 e5 a5.m.m ok1, acc5, vs5, M8, a5.les l8, e4.trans e5, q⟩
  · obtain rfl : i = J.xs.length := by omega
    refine .inl ⟨itd.stop M' H' e' a.m.m ok, ?_⟩
    refine w _ _ (hend acc M' pv L0 a.n) _ _ (.ref L0) ⟨fun b o z => ?_, fr_up a.m.b hB⟩ (fr_up a.f hH)
    by_cases hb : b = L0
    · subst hb
      rw [upM_same] at z
      cases z
      exact ⟨vs, a.h, a.r⟩
    · rw [upM_ne hb] at z
      exact a.m.m b o z
theorem de_lc2 (hN : X.N.Nodup) (hi : DI X B tg iter wi) (ok : BlkOk X.N X.env.scope scope own) (hct : CtOk X.K tv g (own.map (·.2))) (hct1 : CtOk X.K tv1 g1 vs1)
    (hg : ∀ (s : Shared) (H : Hp) (C : Addr) (cl : List (Str × Addr)) (fp : List Addr), PG (X.blk s H scope (compEnvC scope cl C X.env) fp) tg tv) (ht : ∀ (s : Shared) (H : Hp) (C : Addr) (cl : List (Str × Addr)) (fp : List Addr), DTs (X.blk s H scope (compEnvC scope cl C X.env) fp) B ifs tt)
    (hi1 : ∀ (s : Shared) (H : Hp) (C : Addr) (cl : List (Str × Addr)) (fp : List Addr), DI (X.blk s H scope (compEnvC scope cl C X.env) fp) B tg1 iter1 wi1) (hg1 : ∀ (s : Shared) (H : Hp) (C : Addr) (cl : List (Str × Addr)) (fp : List Addr), PG (X.blk s H scope (compEnvC scope cl C X.env) fp) tg1 tv1)
    (ht1 : ∀ (s : Shared) (H : Hp) (C : Addr) (cl : List (Str × Addr)) (fp : List Addr), DTs (X.blk s H scope (compEnvC scope cl C X.env) fp) B ifs1 tt1) (he : ∀ (s : Shared) (H : Hp) (C : Addr) (cl : List (Str × Addr)) (fp : List Addr), DE (X.blk s H scope (compEnvC scope cl C X.env) fp) B elt te)
    (hv : ∀ i ∈ vs1, i ∈ own.map (·.2) := by decide) (hc : X.calm = true := by rfl) (hs : ∀ x, foldedSetIterable iter X.env x = pure x := by intro _; rfl) (hs1 : ∀ env x, foldedSetIterable iter1 env x = pure x := by intro _ _; rfl) :
    DE X B (.ListComp elt [⟨tg, iter, ifs, 0⟩, ⟨tg1, iter1, ifs1, 0⟩] scope pos) (dLc2 wi g tt wi1 g1 tt1 te (own.map (·.2)) vs1) :=
  ⟨peI (pe_lc2 hc hN hi.run ok hv hg (fun s H C cl fp => (ht s H C cl fp).run) (fun s H C cl fp => (hi1 s H C cl fp).run) hg1 (fun s H C cl fp => (ht1 s H C cl fp).run) (fun s H C cl fp => (he s H C cl fp).run) hs hs1) fun σ H Q h => lc2_imp hct hct1 h⟩
theorem ds_setLc2 (i : Nat) {y : Str} {py spos : Pos} (hN : X.N.Nodup) (hi : DI X B tg iter wi) (ok : BlkOk X.N X.env.scope scope own) (hct : CtOk X.K tv g (own.map (·.2))) (hct1 : CtOk X.K tv1 g1 vs1)
    (hg : ∀ (s : Shared) (H : Hp) (C : Addr) (cl : List (Str × Addr)) (fp : List Addr), PG (X.blk s H scope (compEnvC scope cl C X.env) fp) tg tv) (ht : ∀ (s : Shared) (H : Hp) (C : Addr) (cl : List (Str × Addr)) (fp : List Addr), DTs (X.blk s H scope (compEnvC scope cl C X.env) fp) B ifs tt)
    (hi1 : ∀ (s : Shared) (H : Hp) (C : Addr) (cl : List (Str × Addr)) (fp : List Addr), DI (X.blk s H scope (compEnvC scope cl C X.env) fp) B tg1 iter1 wi1) (hg1 : ∀ (s : Shared) (H : Hp) (C : Addr) (cl : List (Str × Addr)) (fp : List Addr), PG (X.blk s H scope (compEnvC scope cl C X.env) fp) tg1 tv1)
    (ht1 : ∀ (s : Shared) (H : Hp) (C : Addr) (cl : List (Str × Addr)) (fp : List Addr), DTs (X.blk s H scope (compEnvC scope cl C X.env) fp) B ifs1 tt1) (he : ∀ (s : Shared) (H : Hp) (C : Addr) (cl : List (Str × Addr)) (fp : List Addr), DE (X.blk s H scope (compEnvC scope cl C X.env) fp) B elt te)
    (hsw : swapsWith (.ListComp elt [⟨tg, iter, ifs, 0⟩, ⟨tg1, iter1, ifs1, 0⟩] scope pos) (some (.Name y py)) spos.line X.env = pure true := by exact sw_true rfl rfl rfl (by decide +kernel))
    (hv : ∀ i ∈ vs1, i ∈ own.map (·.2) := by decide) (hy : X.N[i]? = some y := by rfl) (hyl : X.env.scope.names.lookup y = some .local := by rfl) (hc : X.calm = true := by rfl) (hs : ∀ x, foldedSetIterable iter X.env x = pure x := by intro _; rfl) (hs1 : ∀ env x, foldedSetIterable iter1 env x = pure x := by intro _ _; rfl) :
    DS X B (.Assign [.Name y py] (.ListComp elt [⟨tg, iter, ifs, 0⟩, ⟨tg1, iter1, ifs1, 0⟩] scope pos) spos) (sAsg (dLc2 wi g tt wi1 g1 tt1 te (own.map (·.2)) vs1) (gNm i)) :=
  ⟨psI (ps_setLc2 hc hN hy hyl hsw hi.run ok hv hg (fun s H C cl fp => (ht s H C cl fp).run) (fun s H C cl fp => (hi1 s H C cl fp).run) hg1 (fun s H C cl fp => (ht1 s H C cl fp).run) (fun s H C cl fp => (he s H C cl fp).run) hs hs1) fun D σ H ⟨s, M, d, hs, m, h, w⟩ => lc2_imp hct hct1 (liE_then hs m h fun x M1 v H1 p r m1 f s1 => w.nx _ _ p _ _ (SR.set r s1) m1 f)⟩
end
end DL
set_option linter.all false
/-! defs with defaults; calls by position and with keywords; more operators -/
namespace DL
open PySem PySem.Spec PyProof.Rows L2
section
variable {P₀ : Program} {w : World} {K : PySem.W.Frag} {mg : Str → Option Value} {base : Heap}
theorem fn_G {x qual : Str} {params : Arguments} {body : List Stmt} {scope : Scope} {oc dV kV doc pm cdv ct : Value} {od an : Option Addr} {osl : Array (Option Value)} {f : Addr} {N ps : List Str} {k : Nat} {sp : DSp} (lk : K.lookup f = some ⟨oc, od, .func (PySem.W.fnOf x qual params body scope dV kV doc pm an cdv ct), osl⟩) (hcd : PySem.W.codeIn K cdv qual = true) (S : FnScope N ps scope) (len : ∀ ds M P PE, sp ds M P PE → ds.length = ps.length)
    (hbody : ∀ (A : Around) (outer : List Env) (s : Shared) (H : Hp) (E : XK) (ds : List D) (M : DHp) (P : DK) (PE : DXK), RoomG k (A.deeper (envOfC qual scope s.heap.objs.size f cdv)) →
      DTk (cxOf (L2.CX P₀ w) P₀ w K mg base N qual scope f cdv A outer s H E) ⟨M, H⟩ (Lx PE) → sp ds M P PE →
      ∃ t, DSs (cxOf (L2.CX P₀ w) P₀ w K mg base N qual scope f cdv A outer s H E) ⟨M, H⟩ body t ∧ t { nx := fun _ M' => Lk P .non M', rt := Lk P } (startD N ds) M) : FnD P₀ w K mg base (k + 1) f (PySem.W.fnOf x qual params body scope dV kV doc pm an cdv ct) ps sp := by
  have len' : ∀ vs H Q E, liF K sp vs H Q E → vs.length = ps.length := fun vs H Q E ⟨ds, M, P, PE, r, _, h, _⟩ => by
    rw [r.length]
    exact len _ _ _ _ h
  refine ⟨len', fun A outer s H args us vs Q E rg e0 hb r hsp => ?_⟩
  have hl := len' _ _ _ _ hsp
  obtain ⟨ds, M, P, PE, rs, m, h, wq, we⟩ := hsp
  have keepB : ∀ b o, base.get? b = some o → s.heap.get? b = some o := fun b o q => (e0.bs b o q).1
  have hin : K.In s.heap := e0.mod.kin.keeps keepB
  have nol : s.heap.NoLimit := e0.mod.nolimit.keeps keepB
  have kinds : ∀ y ∈ ps.zip us, scope.names.lookup y.1 = some .local ∨ (scope.names.lookup y.1 = some .cell ∧ ((cellsFrom (s.heap.objs.size + 1) scope.names []).lookup y.1).isSome = true) := fun y hy =>
    (S.par y.1 (List.of_mem_zip hy).1).elim .inl fun z => .inr ⟨z, PySem.W.cellsFrom_some _ _ _ (.inl z)⟩
  refine codeAny_call_function rg.r.depth (hin _ _ lk) rfl S.co S.gen rfl (PySem.W.codeRec_of hin hcd)
    (hb _ _ _ _ ?_)
  refine wpAny_newFunctionEnv_cells S.kind kinds fun env q s1 inc => ?_
  subst q
  have tk : DTk (cxOf (L2.CX P₀ w) P₀ w K mg base N qual scope f cdv A outer s H E) ⟨M, H⟩ (Lx PE) := fun u s' z =>
    takes_of (X := cxOf (L2.CX P₀ w) P₀ w K mg base N qual scope f cdv A outer s H E) (E := E) rfl rfl rfl rfl u s' (by
      obtain ⟨a, B0, sI, pins, σ, H', c, dx, z1, z2, z3, z4, z5, z6, z7, z8, s0, M', x, y1, y2, y3, M2, l, q⟩ := z
      exact ⟨a, B0, sI, pins, σ, H', c, dx, z1, z2, z3, z4, z5, z6, z7, z8, we x M2 q c dx H' (y3.les l) (y2.m.les l) (y2.b.les l)⟩)
  refine ⟨nol.keeps inc.toInCall.keep, codeAny_func ?_⟩
  obtain ⟨t, ht, hq⟩ := hbody A outer s H E ds M P PE ⟨rg.r.deeper _, rg.g⟩ tk h
  have I : Inv (cxOf (L2.CX P₀ w) P₀ w K mg base N qual scope f cdv A outer s H E) [] (start N vs) H s1 := inv_start S rg.r.hd e0 hl r inc
  have st0 : SR K H (start N vs) (startD N ds) := by
    unfold L2.start startD
    rw [rs.length]
    exact SR.start _ rs
  have fin : ∀ {σ' : VS} {H' : Hp} {v : V} {u : Value} {s' : Shared}, Inv (cxOf (L2.CX P₀ w) P₀ w K mg base N qual scope f cdv A outer s H E) [] σ' H' s' → RelV v u → Q v H' → CE outer P₀ w H s Q u s' := fun {σ' H' v u s'} J rv q =>
    ⟨v, H', J.os, J.bare, J.base, J.hok, rv, q⟩
  refine wpAny_mono (ht.run.run [] s1 (start N vs) H { nx := fun _ H' => Q .non H', rt := Q } I ⟨_, M, _, st0, ⟨m, .refl _ _⟩, hq, ⟨fun s' M' ⟨M2, l, p⟩ σ' H' _ b c => wq _ _ p _ _ .non (b.m.les l) (c.les l), fun d M' ⟨M2, l, p⟩ v H' a b c => wq _ _ p _ _ a (b.m.les l) (c.les l), fun _ _ z => z.elim, fun _ _ z => z.elim⟩⟩) (fun fl s' hs => ?_) fun er s' hs => hs
  cases fl with
  | ret u =>
    obtain ⟨v, _, _, J, rv, q⟩ := hs
    exact fin J rv q
  | next =>
    obtain ⟨_, _, J, q⟩ := hs
    exact fin (v := V.non) (u := Value.none) J rfl q
  | brk =>
    obtain ⟨_, _, _, z⟩ := hs
    exact z.elim
  | cont =>
    obtain ⟨_, _, _, z⟩ := hs
    exact z.elim
theorem fn_DD {x qual : Str} {params : Arguments} {body : List Stmt} {scope : Scope} {dvs : List V} {kws : List (Str × V)} {f : Addr} {fd : FuncData} {N ps : List Str} {k : Nat} {sp : DSp} (F : FunD K x qual params body scope dvs kws f fd) (S : FnScope N ps scope) (len : ∀ ds M P PE, sp ds M P PE → ds.length = ps.length)
    (hbody : ∀ (cdv : Value) (A : Around) (outer : List Env) (s : Shared) (H : Hp) (E : XK) (ds : List D) (M : DHp) (P : DK) (PE : DXK), RoomG k (A.deeper (envOfC qual scope s.heap.objs.size f cdv)) →
      DTk (cxOf (L2.CX P₀ w) P₀ w K mg base N qual scope f cdv A outer s H E) ⟨M, H⟩ (Lx PE) → sp ds M P PE →
      ∃ t, DSs (cxOf (L2.CX P₀ w) P₀ w K mg base N qual scope f cdv A outer s H E) ⟨M, H⟩ body t ∧ t { nx := fun _ M' => Lk P .non M', rt := Lk P } (startD N ds) M) : FnD P₀ w K mg base (k + 1) f fd ps sp := by
  obtain ⟨oc, od, dV, kV, doc, pm, an, cdv, ct, osl, rfl, lk, hcd, _, _⟩ := F.ex
  exact fn_G lk hcd S len (hbody cdv)
end
/-- how n values by position and the keywords ks are bound, defaults among them -/
structure KwD (K : PySem.W.Frag) (fd : FuncData) (ps : List Str) (n : Nat) (ks : List Str) (gD : List D → List D → List D) : Prop where
  ex : ∃ (g : List Value → List Value → List Value) (gV : List V → List V → List V), (∀ (s : Shared) (us ws : List Value), K.In s.heap → us.length = n → ws.length = ks.length → BindsTo s fd ⟨us, ks.zip ws⟩ (ps.zip (g us ws))) ∧
    (∀ {vs : List V} {us : List Value} {zs : List V} {ws : List Value}, vs.length = n → zs.length = ks.length → Vals vs us → Vals zs ws → Vals (gV vs zs) (g us ws)) ∧
    ∀ {H : Hp} {vs zs : List V} {ds es : List D}, vs.length = n → zs.length = ks.length → DRs K H vs ds → DRs K H zs es → DRs K H (gV vs zs) (gD ds es)
structure CalD (P : Program) (w : World) (K : PySem.W.Frag) (mg : Str → Option Value) (base : Heap) (x : Str) (n : Nat) (ks : List Str) (gD : List D → List D → List D) (k : Nat) (sp : DSp) : Prop where
  ex : ∃ (f : Addr) (fd : FuncData) (ps : List Str), FnD P w K mg base k f fd ps sp ∧ mg x = some (.ref f) ∧ PySem.W.keepIn K (.ref f) = true ∧ KwD K fd ps n ks gD
def dCallD (n m : Nat) (gD : List D → List D → List D) (sp : DSp) (W : DWX) (u t : DTA) : DTE := fun s M Q => u s M fun ds M1 => t s M1 fun es M2 => ds.length = n ∧ es.length = m ∧ sp (gD ds es) M2 Q fun x M3 => W x s M3
section
variable {X : Cx} {B : Bs} {W : DWX} {k n : Nat} {sp : DSp} {x : Str} {e : Expr} {es : List Expr} {kws : List Keyword} {ks : List Str} {gD : List D → List D → List D} {u t : DTA} {p pos : Pos}
theorem de_callD (G : CalD X.prog X.w X.K X.mg X.base x n ks gD k sp) (rg : RoomG k X.A) (tk : DTk X B W) (ha : DA X B (e :: es) u) (hkw : DKw X B kws t) (hg : Gl X x := by rfl) (hdb : (x == ("__debug__" : Str)) = false := by decide)
    (h1 : (backToKw pos (keywordEach kws X.env)).all (·.1.isSome) = true := by rfl) (h2 : (backToKw pos (keywordEach kws X.env)).filterMap (·.1) = ks := by rfl)
    (h3 : ((backTo pos (starEach (e :: es) X.env)).any (·.1) || (backToKw pos (keywordEach kws X.env)).any (·.1.isNone)) = false := by rfl) (he : starEach (e :: es) X.env = (false, eval e X.env) :: starEach es X.env := by rfl) :
    DE X B (.Call (.Name x p) (e :: es) kws pos) (dCallD n ks.length gD sp W u t) := by
  obtain ⟨f, fd, ps, F, hm, kp, g, gV, to, rel, drs⟩ := G.ex
  refine ⟨⟨fun pins s σ H Q I ⟨s0, M, P, hs, m, h, w⟩ => wpAny_Call_Name_kw (ld_glob I hg hm ?_ hdb)⟩⟩
  refine PySem.W.callWith_KW (h₀ := X.base) I.ok.mod.kin kp h1 (thn (ha.run.run pos pins s σ H _ I (liA_then hs m h fun ds M1 vs H1 q r m1 f1 s1 => (⟨ds, M1, P, r, s1, m1, q, w.go f1⟩ : ∃ ds M1 P1, DRs X.K H1 vs ds ∧ SR X.K H1 σ s0 ∧ MB X.K B M1 H1 ∧ (t s0 M1 fun es M2 => ds.length = n ∧ es.length = ks.length ∧ sp (gD ds es) M2 P1 fun x M3 => W x s0 M3) ∧ Wv X.K B M1 H1 P1 Q))) fun us s1 ⟨vs, H1, I1, r, ds, M1, P1, rs, hs1, m1, q, w1⟩ => ?_) h3 he
  refine thn (hkw.run.run pos pins s1 σ H1 _ I1 (liA_then hs1 m1 q fun es M2 zs H2 q r2 m2 f2 s2 => (⟨es, M2, P1, rs.ts f2.s, r2, s2, m2, q, w1.go f2⟩ : ∃ es M2 P2, DRs X.K H2 vs ds ∧ DRs X.K H2 zs es ∧ SR X.K H2 σ s0 ∧ MB X.K B M2 H2 ∧ (ds.length = n ∧ es.length = ks.length ∧ sp (gD ds es) M2 P2 fun x M3 => W x s0 M3) ∧ Wv X.K B M2 H2 P2 Q))) fun ws s2 ⟨zs, H2, I2, rz, es, M2, P2, rs2, rz2, hs2, m2, ⟨n1, n2, q⟩, w2⟩ => ⟨I2.kIn, ?_⟩
  rw [h2]
  have l1 : vs.length = n := rs.length.trans n1
  have l2 : zs.length = ks.length := rz2.length.trans n2
  refine wpAny_call (codeAny_mono (run_G F rg I2.env0 tk (to s2 us ws I2.kIn (r.length.symm.trans l1) (rz.length.symm.trans l2)) I2 (rel l1 l2 r rz) (drs l1 l2 rs2 rz2) hs2 m2 q w2) fun out s' hq => ?_)
  match out, hq with
  | .error _, hq => exact hq
  | .ok (.ret _), hq => exact hq
end
/-! more operators -/
def int2 (C : Int → Int → Prop) (g : Int → Int → Int) : DOp := fun a b M Q => ∃ i j, a = .int i ∧ b = .int j ∧ C i j ∧ Q (.int (g i j)) M
section
variable {X : Cx} {B : Bs}
theorem or_i2 {f : Value → Value → Sem Value} {C : Int → Int → Prop} {g : Int → Int → Int} (hf : OpR X f (rI C fun i j => .int (g i j))) : OpR X f (liR X.K B (int2 C g)) := or_int hf fun _ _ _ _ h => h
theorem or_i0 {f : Value → Value → Sem Value} {g : Int → Int → Int} (hf : OpR X f (rI0 fun i j => .int (g i j))) : OpR X f (liR X.K B (int2 (fun _ _ => True) g)) := fun pins s σ H x y v u Q I rx ry ⟨a, b, M, P, ra, rb, m, ⟨i, j, e1, e2, _, q⟩, w⟩ => by
  subst e1 e2
  cases ra
  cases rb
  exact hf pins s σ H _ _ v u Q I rx ry ⟨_, _, rfl, rfl, w _ _ q _ _ (.int _) m (.refl _ _)⟩
theorem or_xor : OpR X (binaryOp .BitXor) (liR X.K B (int2 (fun _ _ => True) fun i j => Builtin.bitXor i j)) := or_i0 op_xor
theorem or_and : OpR X (binaryOp .BitAnd) (liR X.K B (int2 (fun _ _ => True) fun i j => Builtin.bitAnd i j)) := or_i0 op_and
theorem or_shl : OpR X (binaryOp .LShift) (liR X.K B (int2 CPow fun i j => i * 2 ^ j.toNat)) := or_i2 op_shl
theorem or_iadd : OpR X (inplaceOp .Add) (liR X.K B (int2 (fun _ _ => True) fun i j => i + j)) := or_i0 iop_add
theorem or_isub : OpR X (inplaceOp .Sub) (liR X.K B (int2 (fun _ _ => True) fun i j => i - j)) := or_i0 iop_sub
theorem or_imul : OpR X (inplaceOp .Mult) (liR X.K B (int2 CMul fun i j => i * j)) := or_i2 iop_mul
theorem or_ifdv : OpR X (inplaceOp .FloorDiv) (liR X.K B (int2 CDiv fun i j => i / j)) := or_i2 iop_fdiv
/-- name op= e -/
theorem ds_aug {e : Expr} {te : DTE} {op : Operator} {o : DOp} {x : Str} {pos pos' : Pos} (i : Nat) (hN : X.N.Nodup) (he : DE X B e te) (ho : OpR X (inplaceOp op) (liR X.K B o)) (hi : X.N[i]? = some x := by rfl) (hx : Loc X.env.scope x := by first | exact .inl rfl | exact .inr rfl)
    (hf : X.fn x = true ∨ X.env.scope.names.lookup x = some .local := by first | exact .inl rfl | exact .inr rfl | assumption) : DS X B (.AugAssign (.Name x pos') op e pos) (sAug i o te) :=
  ⟨psI (ps_aug hN hi hx he.run ho hf) fun D σ H ⟨s, M, d, hs, m, h, w⟩ => by
    unfold sAug at h
    split at h
    · rename_i a ha
      obtain ⟨v, e1, r1⟩ := hs.get ha
      exact ⟨v, e1, liE_then hs m h fun y M1 u H1 q r m1 f1 s1 => ⟨a, y, M1, _, r1.ts f1.s, r, m1, q, fun z M2 q2 vz H2 r2 m2 f2 => w.nx _ _ q2 _ _ (SR.set r2 (s1.ts f2.s)) m2 (f1.trans f2)⟩⟩
    · exact h.elim⟩
end
end DL
namespace DL
open PySem PySem.Spec PyProof.Rows L2
/-! x, y, z = a, b, c -/
def sPar3 (i j l : Nat) (t : DTA) : DTS := fun d s M => t s M fun ds M1 => match ds with
  | [x, y, z] => d.nx (((s.set i (some x)).set j (some y)).set l (some z)) M1
  | _ => False
theorem ds_par3 {X : Cx} {B : Bs} (i j l : Nat) {x y z : Str} {a b c : Expr} {t : DTA} {px py pz pt pos : Pos} {kt k2 pt2} (hN : X.N.Nodup) (ha : DA X B [a, b, c] t) (hc : X.calm = true := by rfl) (hi : X.N[i]? = some x := by rfl) (hj : X.N[j]? = some y := by rfl) (hl : X.N[l]? = some z := by rfl)
    (hij : i ≠ j := by decide) (hil : i ≠ l := by decide) (hjl : j ≠ l := by decide) (hx : X.env.scope.names.lookup x = some .local := by rfl) (hy : X.env.scope.names.lookup y = some .local := by rfl) (hz : X.env.scope.names.lookup z = some .local := by rfl)
    (hw : swappedStores [.Tuple [.Name x px, .Name y py, .Name z pz] kt pt] (.Tuple [a, b, c] k2 pt2) X.env = pure (some [x, y, z]) := by rfl) (hs : swapsWithSole [.Tuple [.Name x px, .Name y py, .Name z pz] kt pt] (.Tuple [a, b, c] k2 pt2) pos.line X.env = pure false := by rfl) :
    DS X B (.Assign [.Tuple [.Name x px, .Name y py, .Name z pz] kt pt] (.Tuple [a, b, c] k2 pt2) pos) (sPar3 i j l t) :=
  ⟨psI (ps_par3 hc hN hi hj hl hij hil hjl hx hy hz ha.run hw hs) fun D σ H ⟨s, M, d, hs, m, h, w⟩ => liA_then hs m h fun ds M1 vs H1 q r m1 f1 s1 => by
    match ds, r, q with
    | [_, _, _], .cons (v := v) r1 (.cons (v := u) r2 (.cons (v := o) r3 .nil)), q => exact ⟨v, u, o, rfl, w.nx _ _ q _ _ (SR.set r3 (SR.set r2 (SR.set r1 s1))) m1 f1⟩⟩
end DL
namespace DL
open PySem PySem.Spec PyProof.Rows L2
/-! in a comprehension's block: the head's facts by their own name -/
section
variable {X : Cx} {B : Bs} {e : Expr} {te : DTE} {pos : Pos}
theorem de_fldK (K : PySem.W.Frag) (hK : X.K = K) {f : Str} (he : DE X B e te) (hb : attributeBase e f X.env (eval e X.env) = eval e X.env := by rfl) : DE X B (.Attribute e f pos) (dFld K f te) := hK ▸ de_fld he hb
theorem de_isiK (K : PySem.W.Frag) (hK : X.K = K) {p p1 : Pos} {T : String} {x : Str} (hm : X.mg "isinstance" = none) (hx : X.mg x = none) (he : DE X B e te) (hv : bootBuiltins x = some (.type T) := by decide +kernel) (hT : kitT T = true := by decide +kernel) (h5 : T ∈ ["bool", "int", "str", "tuple", "list"] := by decide)
    (hg : Gl X "isinstance" := by rfl) (hg2 : Gl X x := by rfl) (hn : x ≠ "__name__" := by decide) (hdb : (x == ("__debug__" : Str)) = false := by decide)
    (s1 : starEach [e, .Name x p1] X.env = (false, eval e X.env) :: starEach [.Name x p1] X.env := by rfl) : DE X B (.Call (.Name "isinstance" p) [e, .Name x p1] [] pos) (dIsi T K te) := hK ▸ de_isi hm hx he hv hT h5 hg hg2 hn hdb s1
end
end DL
set_option linter.all false
/-! defs with defaults, called with keywords alone -/
namespace DL
open PySem PySem.Spec PyProof.Rows L2
def dCallD0 (m : Nat) (gD : List D → List D → List D) (sp : DSp) (W : DWX) (t : DTA) : DTE := fun s M Q => t s M fun es M2 => es.length = m ∧ sp (gD [] es) M2 Q fun x M3 => W x s M3
section
variable {X : Cx} {B : Bs} {W : DWX} {k : Nat} {sp : DSp} {x : Str} {kws : List Keyword} {ks : List Str} {gD : List D → List D → List D} {u : DTA} {p pos : Pos}
theorem de_callD0 (G : CalD X.prog X.w X.K X.mg X.base x 0 ks gD k sp) (rg : RoomG k X.A) (tk : DTk X B W) (ha : DKw X B kws u) (hg : Gl X x := by rfl) (hdb : (x == ("__debug__" : Str)) = false := by decide)
    (h1 : (backToKw pos (keywordEach kws X.env)).all (·.1.isSome) = true := by rfl) (h2 : (backToKw pos (keywordEach kws X.env)).filterMap (·.1) = ks := by rfl)
    (h3 : ((backTo pos (starEach [] X.env)).any (·.1) || (backToKw pos (keywordEach kws X.env)).any (·.1.isNone)) = false := by rfl) : DE X B (.Call (.Name x p) [] kws pos) (dCallD0 ks.length gD sp W u) := by
  obtain ⟨f, fd, ps, F, hm, kp, g, gV, to, rel, drs⟩ := G.ex
  refine ⟨⟨fun pins s σ H Q I ⟨s0, M, P, hs, m, h, w⟩ => wpAny_Call_Name_kw (ld_glob I hg hm ?_ hdb)⟩⟩
  refine PySem.W.callWith_KW0 (h₀ := X.base) I.ok.mod.kin kp h1 (thn (ha.run.run pos pins s σ H _ I (liA_then hs m h fun ds M1 vs H1 q r m1 f1 s1 => (⟨ds, M1, P, r, s1, m1, q, w.go f1⟩ : ∃ ds M1 P1, DRs X.K H1 vs ds ∧ SR X.K H1 σ s0 ∧ MB X.K B M1 H1 ∧ (ds.length = ks.length ∧ sp (gD [] ds) M1 P1 (fun x M2 => W x s0 M2)) ∧ Wv X.K B M1 H1 P1 Q))) fun ws s1 ⟨vs, H1, I1, r, ds, M1, P1, rs, hs1, m1, q, w1⟩ => ⟨I1.kIn, ?_⟩) h3
  rw [h2]
  have l1 : vs.length = ks.length := rs.length.trans q.1
  refine wpAny_call (codeAny_mono (run_G F rg I1.env0 tk (to s1 [] ws I1.kIn rfl (r.length.symm.trans l1)) I1 (rel (vs := []) (us := []) rfl l1 .nil r) (drs (vs := []) (ds := []) rfl l1 .nil rs) hs1 m1 q.2 w1) fun out s' hq => ?_)
  match out, hq with
  | .error _, hq => exact hq
  | .ok (.ret _), hq => exact hq
end
end DL
set_option linter.all false
/-! the place in a list; is, of truths -/
namespace DL
open PySem PySem.Spec PyProof.Rows L2
def isB2 : DCm := fun a b M Q => ∃ k j, a = .bl k ∧ b = .bl j ∧ Q (k == j) M
def notB2 : DCm := fun a b M Q => ∃ k j, a = .bl k ∧ b = .bl j ∧ Q (k != j) M
def idxD : DMt := fun d es M Q => ∃ (p : Addr) (x : D) (ds : List D) (y : PyData) (ys : List PyData) (j : Nat) (z : PyData), d = .ref p ∧ es = [x] ∧ M p = some (.lst ds) ∧ Pds M ds ys ∧ Pd M x y ∧ SeqAt.shaped (.list ys) = true ∧ SeqAt.shaped y = true ∧ ys[j]? = some z ∧ PyData.eqv z y = true ∧
  (∀ (m : Nat) (z' : PyData), m < j → ys[m]? = some z' → PyData.eqv z' y = false) ∧ Q (.int (j : Nat)) M
section
variable {X : Cx} {B : Bs}
theorem or_isB : OpR X (compareOp .Is) (liQ X.K B isB2) := fun pins s σ H x y v u Q I rx ry ⟨a, b, M, P, ra, rb, m, ⟨k, j, e1, e2, q⟩, w⟩ => by
  subst e1 e2
  cases ra
  cases rb
  cases rx
  cases ry
  exact is_bool ⟨.bl _, H, I, rfl, w _ _ q _ _ (.bl _) m (.refl _ _)⟩
theorem or_isnB : OpR X (compareOp .IsNot) (liQ X.K B notB2) := fun pins s σ H x y v u Q I rx ry ⟨a, b, M, P, ra, rb, m, ⟨k, j, e1, e2, q⟩, w⟩ => by
  subst e1 e2
  cases ra
  cases rb
  cases rx
  cases ry
  exact isnot_bool ⟨.bl _, H, I, rfl, w _ _ q _ _ (.bl _) m (.refl _ _)⟩
theorem mt_idx0 (hu : X.A.units + 65 < cLine) : MtR X "list.index" (liMt X.K B idxD) := fun pins s σ H v vs w us Q I rx rxs ⟨d, es, M, P, rd, rs, m, ⟨p, x, ds, y, ys, j, z, e1, e2, h1, h2, h3, h4, h5, h6, h7, h8, q⟩, w'⟩ => by
  subst e1 e2
  cases rd
  cases rs with
  | cons r t =>
    cases t
    obtain ⟨zs, g1, g2⟩ := m.m _ _ h1
    exact mt_indexD hu pins s σ H _ _ w us Q I rx rxs ⟨p, _, y, ys, j, z, rfl, rfl, .lst (SqL.of g1) (h2.dp m g2), h3.dp m r, h4, h5, h6, h7, h8, w' _ _ q _ _ (.int _) m (.refl _ _)⟩
theorem mt_idx {k : Nat} (hr : RoomG k X.A) : MtR X "list.index" (liMt X.K B idxD) := mt_idx0 (room65 hr)
end
end DL
set_option linter.all false
/-! a lambda without parameters, handed to a def that calls it -/
namespace DL
open PySem PySem.Spec PyProof.Rows L2
open LamX (CodeO LamS lamEnv lamCx TabB)
abbrev lamQ : Str := "<lambda>"
/-- a table of code objects, told -/
def TabM (M : DHp) (P : Addr) (q : Str) : Prop := ∃ ps : Array Value, M P = some (.raw (.tbl ps)) ∧ TriplesOk ps.toList ∧ ∀ pos cv, codeAmong pos ps.toList = some cv → ∃ c, cv = .ref c ∧ M c = some (.raw (CodeO c q))
def TabsM (T : List (Addr × Str)) (M : DHp) : Prop := ∀ p ∈ T, TabM M p.1 p.2
/-- all that is told stays, but tables -/
def LesN (M M' : DHp) : Prop := ∀ a o, M a = some o → (∀ ps, o ≠ .raw (.tbl ps)) → M' a = some o
theorem LesN.refl (M : DHp) : LesN M M := fun _ _ h _ => h
theorem LesN.trans {M M1 M2 : DHp} (a : LesN M M1) (b : LesN M1 M2) : LesN M M2 := fun c o h n => b c o (a c o h n) n
theorem Les.n {M M' : DHp} (l : Les M M') : LesN M M' := fun a o h _ => l a o h
theorem TabM.les {M M' : DHp} {P : Addr} {q : Str} (t : TabM M P q) (l : Les M M') : TabM M' P q := by
  obtain ⟨ps, h1, h2, h3⟩ := t
  refine ⟨ps, l _ _ h1, h2, fun pos cv e => ?_⟩
  obtain ⟨c, e1, e2⟩ := h3 pos cv e
  exact ⟨c, e1, l _ _ e2⟩
theorem TabsM.les {T : List (Addr × Str)} {M M' : DHp} (t : TabsM T M) (l : Les M M') : TabsM T M' := fun p hp => (t p hp).les l
theorem SqD.lesN {M M' : DHp} {d : D} {ds : List D} (h : SqD M d ds) (l : LesN M M') : SqD M' d ds := h.elim .inl fun ⟨p, e, q⟩ => .inr ⟨p, e, q.elim (fun q => .inl (l _ _ q fun _ z => nomatch z)) fun q => .inr (l _ _ q fun _ z => nomatch z)⟩
section
variable {X : Cx} {pins : List (Addr × Obj)} {σ : VS} {H : Hp} {s : Shared}
/-- a lambda is made: its code object is new, or stands in the table -/
theorem lam_make3 {c P : Addr} {q : Str} {ps : Array Value} {params : Arguments} {body : Expr} {scope : Scope} {pos : Pos} {E : Value → Shared → Prop} {Q : Value → Shared → Prop} (I : Inv X pins σ H s) (TB : TabB X.base X.mg c P) (hcode : X.env.code = .ref c) (hq : q = X.env.qual ++ lamQ)
    (hP : H P = some (.tbl ps)) (ht : TriplesOk ps.toList) (hall : ∀ pos cv, codeAmong pos ps.toList = some cv → ∃ c, cv = .ref c ∧ H c = some (CodeO c q)) (hdef : defaultsOf params X.env = ([], [])) (hfree : ∀ y ∈ scope.names, y.2 = .free → ∃ c, X.env.cells.lookup y.1 = some c)
    (h : ∀ (f c' : Addr) (pm ctv : Value) (H1 : Hp) (s' : Shared), Inv X pins σ H1 s' →
      (H1 = H ∧ (∃ p', codeAmong p' ps.toList = some (.ref c')) ∨ ∃ more : Array Value, H c' = none ∧ H1 = upd (upd H P (.tbl (ps ++ more))) c' (CodeO c' q) ∧ TriplesOk (ps ++ more).toList ∧ ∀ p' cv, codeAmong p' (ps ++ more).toList = some cv → codeAmong p' ps.toList = some cv ∨ cv = .ref c') →
      s'.heap.get? f = some (PySem.W.kla_obj lamQ q params body scope (cloFrom X.env.cells scope.names []) pm c' ctv) → H1 f = none → f ∉ frs X.stack → H1 c' = some (CodeO c' q) → Q (.ref f) s') :
    wpAny (model X.prog X.w) X.A (eval (.Lambda params body scope pos) X.env) Q E s := by
  subst hq
  have gP : s.heap.get? P = some { cls := .none, data := .fields ps } := I.hok P _ hP
  have gb := TB.bm.keeps I.bk
  have nofr : ∀ f, s.heap.objs.size ≤ f → f ∉ frs X.stack := fun f hf z => by
    rcases List.mem_cons.mp (I.stkSub _ z) with e | e
    · have h1 := I.lt
      rw [← e] at h1
      exact absurd (Nat.lt_of_lt_of_le h1 hf) (Nat.lt_irrefl _)
    · exact I.nofs hf e
  refine PySem.W.kla_eval hdef ?_
  cases hfound : codeAmong pos ps.toList with
  | some cv =>
    obtain ⟨c1, rfl, hc1⟩ := hall pos cv hfound
    refine PySem.W.kla_makeFunctionHit (mg := X.mg) (c := c) (P := P) (ps := ps) (closure_ok hfree) I.ok.glob (I.mod.glob.keeps I.bk) hcode (TB.code.keeps I.bk) gP ht hfound gb fun ct g tk kp le => ?_
    have J : Inv X pins σ H { s with heap := g.push (PySem.W.kla_obj lamQ (X.env.qual ++ lamQ) params body scope (cloFrom X.env.cells scope.names []) ((X.mg "__name__").getD .none) c1 ct), toks := tk } := I.kept fun b o e => Heap.get?_push_of_some _ (kp b o e)
    exact h g.objs.size c1 _ ct H _ J (.inl ⟨rfl, pos, hfound⟩) (Heap.get?_push_size _ rfl) (I.hok.fresh le) (nofr _ le) hc1
  | none =>
    refine PySem.W.kla_makeFunction (mg := X.mg) (c := c) (P := P) (ps := ps) (closure_ok hfree) I.ok.glob (I.mod.glob.keeps I.bk) hcode (TB.code.keeps I.bk) gP ht hfound TB.gP gb fun c1 ct g tk kp ge lt hrec hm => ?_
    obtain ⟨c2, oc, vs, tq, e2, hoc, hdc, hvc⟩ := hrec
    cases e2
    have le : s.heap.objs.size ≤ g.objs.size := Nat.le_trans ge (Nat.le_of_lt lt)
    have c0 : H c1 = none := I.hok.fresh ge
    have nPc : P ≠ c1 := ne_of_none hP c0
    have J := LamX.inv_table (t' := tk) (more := #[rawInt pos.line, rawInt pos.col, .ref c1]) (q := X.env.qual ++ lamQ) (h' := g.push (PySem.W.kla_obj lamQ (X.env.qual ++ lamQ) params body scope (cloFrom X.env.cells scope.names []) ((X.mg "__name__").getD .none) c1 ct)) I hP
      (fun b o n e => Heap.get?_push_of_some _ (kp b o n e)) (Heap.get?_push_of_some _ hm) ge ⟨oc, vs, tq, Heap.get?_push_of_some _ hoc, hdc, hvc⟩
    have el : (ps ++ #[rawInt pos.line, rawInt pos.col, Value.ref c1]).toList = ps.toList ++ [rawInt pos.line, rawInt pos.col, .ref c1] := by simp
    have n1 : g.objs.size ≠ c1 := Nat.ne_of_gt lt
    have n2 : g.objs.size ≠ P := Nat.ne_of_gt (Nat.lt_of_lt_of_le (Heap.lt_size gP) le)
    refine h g.objs.size c1 _ ct _ _ J (.inr ⟨_, c0, rfl, by rw [el]; exact PySem.TriplesOk_snoc _ _ _ _ ht, fun p' cv hcv => ?_⟩) (Heap.get?_push_size _ rfl) ?_ (nofr _ le) upd_same
    · rw [el] at hcv
      exact LamX.among_app _ ht hcv
    · rw [upd_ne n1, upd_ne n2]
      exact I.hok.fresh le
end
/-- the same, told by values -/
theorem tab_MB {K : PySem.W.Frag} {B : Bs} {M : DHp} {H H1 : Hp} {T : List (Addr × Str)} {P c' : Addr} {q : Str} {ps : Array Value} (m : MB K B M H) (hT : TabsM T M) (hin : (P, q) ∈ T) (hu : ∀ p ∈ T, p.1 = P → p.2 = q) (hMP : M P = some (.raw (.tbl ps)))
    (hc : H1 c' = some (CodeO c' q)) (h : H1 = H ∧ (∃ p', codeAmong p' ps.toList = some (.ref c')) ∨ ∃ more : Array Value, H c' = none ∧ H1 = upd (upd H P (.tbl (ps ++ more))) c' (CodeO c' q) ∧ TriplesOk (ps ++ more).toList ∧ ∀ p' cv, codeAmong p' (ps ++ more).toList = some cv → codeAmong p' ps.toList = some cv ∨ cv = .ref c') :
    ∃ M1, MB K B M1 H1 ∧ Fr M H M1 H1 ∧ LesN M M1 ∧ TabsM T M1 ∧ M1 c' = some (.raw (CodeO c' q)) := by
  obtain ⟨ps', hP', _, hall⟩ := hT _ hin
  have e : ps' = ps := by
    have hP' : M P = some (.raw (.tbl ps')) := hP'
    rw [hMP] at hP'
    cases hP'
    rfl
  subst e
  rcases h with ⟨rfl, p', hp'⟩ | ⟨more, c0, rfl, ht, hnew⟩
  · obtain ⟨c1, e1, e2⟩ := hall p' _ hp'
    cases e1
    exact ⟨M, m, .refl _ _, .refl _, hT, e2⟩
  · have hP : H P = some (.tbl ps') := m.m _ _ hMP
    have nPc : P ≠ c' := ne_of_none hP c0
    have mc : M c' = none := m.free c0
    have at_ : ∀ b, b ≠ P → b ≠ c' → upd (upd H P (.tbl (ps' ++ more))) c' (CodeO c' q) b = H b := fun b h1 h2 => by rw [upd_ne h2, upd_ne h1]
    have ma : ∀ b, b ≠ P → b ≠ c' → upM (upM M P (.raw (.tbl (ps' ++ more)))) c' (.raw (CodeO c' q)) b = M b := fun b h1 h2 => by rw [upM_ne h2, upM_ne h1]
    have nP : ∀ b u, H b = some u → (∀ z, u ≠ .tbl z) → b ≠ P := fun b u e n z => by
      rw [z, hP] at e
      exact n _ (Option.some.inj e).symm
    have ts : TS0 H (upd (upd H P (.tbl (ps' ++ more))) c' (CodeO c' q)) := ⟨fun a xs e => by rw [at_ a (nP a _ e fun _ z => nomatch z) (ne_of_none e c0)]; exact e, fun a o u e => by rw [at_ a (nP a _ e fun _ z => nomatch z) (ne_of_none e c0)]; exact e, fun a e => by
      by_cases h1 : a = c'
      · rw [h1]; exact c0
      · by_cases h2 : a = P
        · rw [h2, upd_ne nPc, upd_same] at e
          cases e
        · rw [at_ a h2 h1] at e
          exact e⟩
    have fr : Fr M H (upM (upM M P (.raw (.tbl (ps' ++ more)))) c' (.raw (CodeO c' q))) (upd (upd H P (.tbl (ps' ++ more))) c' (CodeO c' q)) := ⟨ts, fun a o e n => by
      have h1 : a ≠ c' := ne_of_none e c0
      have h2 : a ≠ P := fun z => by rw [z, hMP] at n; cases n
      rw [at_ a h2 h1, ma a h2 h1]
      exact ⟨e, n⟩⟩
    have ln : LesN M (upM (upM M P (.raw (.tbl (ps' ++ more)))) c' (.raw (CodeO c' q))) := fun a o e n => by
      have h1 : a ≠ c' := fun z => by rw [z, mc] at e; cases e
      have h2 : a ≠ P := fun z => by rw [z, hMP] at e; cases e; exact n _ rfl
      rw [ma a h2 h1]
      exact e
    refine ⟨_, ⟨fun a o e => ?_, m.b.trans fr⟩, fr, ln, fun p hp => ?_, upM_same⟩
    · by_cases h1 : a = c'
      · subst h1
        rw [upM_same] at e
        cases e
        exact upd_same
      · by_cases h2 : a = P
        · subst h2
          rw [upM_ne nPc, upM_same] at e
          cases e
          show upd (upd H a (.tbl (ps' ++ more))) c' (CodeO c' q) a = _
          rw [upd_ne nPc, upd_same]
        · rw [ma a h2 h1] at e
          exact (m.m a o e).ts ts (at_ a h2 h1)
    · by_cases hb : p.1 = P
      · rw [hu p hp hb, hb]
        refine ⟨ps' ++ more, by rw [upM_ne nPc, upM_same], ht, fun pos cv hcv => ?_⟩
        rcases hnew pos cv hcv with z | z
        · obtain ⟨c1, e1, e2⟩ := hall pos cv z
          exact ⟨c1, e1, ln _ _ e2 fun qs z => by injection z with z; exact LamX.codeO_ne qs z⟩
        · exact ⟨c', z, upM_same⟩
      · obtain ⟨qs, h1, h2, h3⟩ := hT p hp
        have n1 : p.1 ≠ c' := fun z => by rw [z, mc] at h1; cases h1
        refine ⟨qs, by rw [ma _ hb n1]; exact h1, h2, fun pos cv hcv => ?_⟩
        obtain ⟨c1, e1, e2⟩ := h3 pos cv hcv
        exact ⟨c1, e1, ln _ _ e2 fun qs z => by injection z with z; exact LamX.codeO_ne qs z⟩
/-! ### the thunk -/
abbrev DTh := DHp → DK → DXK → Prop
def dThk (f c' : Addr) (q : Str) (th : DTh) (W : DWX) : DTE := fun s M Q => s[0]? = some (some (.ref f)) ∧ M c' = some (.raw (CodeO c' q)) ∧ th M Q fun x M2 => W x s M2
/-- what tuples and frozen things need to stay -/
theorem sqT_w {K : PySem.W.Frag} {H H' : Hp} (ht : ∀ a xs, H a = some (.tup xs) → H' a = some (.tup xs)) (hf : ∀ a o u, H a = some (.frz o u) → H' a = some (.frz o u)) {a : Addr} {xs : List V} (h : SqT K H a xs) : SqT K H' a xs := by
  rcases h with (h | ⟨o, h⟩) | h
  · exact .inl (.inl (ht _ _ h))
  · exact .inl (.inr ⟨o, hf _ _ _ h⟩)
  · exact .inr h
mutual
theorem DR.w {K : PySem.W.Frag} {H H' : Hp} (ht : ∀ a xs, H a = some (.tup xs) → H' a = some (.tup xs)) (hf : ∀ a o u, H a = some (.frz o u) → H' a = some (.frz o u)) : ∀ {v : V} {d : D}, DR K H v d → DR K H' v d
  | _, _, .non => .non
  | _, _, .bl b => .bl b
  | _, _, .int i => .int i
  | _, _, .str x => .str x
  | _, _, .ty n => .ty n
  | _, _, .ref a => .ref a
  | _, _, .tup ⟨o, h, hd⟩ t => .tup ⟨o, hf _ _ _ h, hd⟩ (DRs.w ht hf t)
theorem DRs.w {K : PySem.W.Frag} {H H' : Hp} (ht : ∀ a xs, H a = some (.tup xs) → H' a = some (.tup xs)) (hf : ∀ a o u, H a = some (.frz o u) → H' a = some (.frz o u)) : ∀ {v : List V} {d : List D}, DRs K H v d → DRs K H' v d
  | _, _, .nil => .nil
  | _, _, .cons h t => .cons (DR.w ht hf h) (DRs.w ht hf t)
end
theorem SR.w {K : PySem.W.Frag} {H H' : Hp} (ht : ∀ a xs, H a = some (.tup xs) → H' a = some (.tup xs)) (hf : ∀ a o u, H a = some (.frz o u) → H' a = some (.frz o u)) : ∀ {σ : VS} {s : DSt}, SR K H σ s → SR K H' σ s
  | _, _, .nil => .nil
  | _, _, .cons h t => .cons (DR.w ht hf h) (SR.w ht hf t)
  | _, _, .skip t => .skip (SR.w ht hf t)
section
variable {X : Cx} {pins : List (Addr × Obj)} {σ : VS} {H : Hp} {s : Shared}
/-- x(), in the def that got the lambda -/
theorem act_D {CXg : CXT} {Eg : XK} {Ng : List Str} {qg : Str} {sg : Scope} {g f c' : Addr} {cdg pm ctv : Value} {q : Str} {params : Arguments} {body : Expr} {scope : Scope} {k : Nat} {a : Str} {pn : List (Addr × Obj)} {xe : Value → Shared → Prop} {W : DWX} {B : Bs} {t : DWX → DTE} {p1 p2 : Pos} {s0 : DSt}
    (I : Inv X pins σ H s) (L : LamS X.env.scope scope) (hq : q = X.env.qual ++ lamQ) (hf : s.heap.get? f = some (PySem.W.kla_obj lamQ q params body scope (cloFrom X.env.cells scope.names []) pm c' ctv)) (hfn : H f = none) (hfr : f ∉ frs X.stack)
    (hbind : bindArgs (PySem.W.kla_fn lamQ q params body scope (cloFrom X.env.cells scope.names []) pm (.ref c') ctv) ⟨[], []⟩ = pure []) (hs : SR X.K H σ s0)
    (tk : DTk ((cxOf CXg X.prog X.w X.K X.mg X.base Ng qg sg g cdg X.A X.stack s H Eg).tr pn xe) B W) (hr : RoomG (k + 1) (X.A.deeper (envOfC qg sg s.heap.objs.size g cdg)))
    (hbody : ∀ (A : Around) (outer : List Env) (s : Shared) (H : Hp) (E : XK) (WD : DWX) (B' : Bs), RoomG k (A.deeper (lamEnv X scope s.heap.objs.size f c')) → DTk (lamCx X A outer s H E scope f c') B' WD → DE (lamCx X A outer s H E scope f c') B' body (t WD))
    (hN : Ng[0]? = some a) (hv : Vis sg a) (hd : (a == ("__debug__" : Str)) = false := by decide) (hcd : (a == ("__classdict__" : Str)) = false := by decide) :
    DE ((cxOf CXg X.prog X.w X.K X.mg X.base Ng qg sg g cdg X.A X.stack s H Eg).tr pn xe) B (.Call (.Name a p1) [] [] p2) (dThk f c' q (fun M Q PE => t (fun x _ M2 => PE x M2) s0 M Q) W) := by
  subst hq
  refine ⟨⟨fun pinsZ sZ σZ HZ Q IZ ⟨dZ, M, P, hsZ, m, ⟨e1, e2, e3⟩, w⟩ => ?_⟩⟩
  obtain ⟨v0, g1, g2⟩ := hsZ.get e1
  cases g2
  have hc : HZ c' = some (CodeO c' (X.env.qual ++ lamQ)) := m.m _ _ e2
  refine wpAny_Call_Name_kw (thn ((pe_var (pos := p1) (i := 0) hN hv hd hcd).run pinsZ sZ σZ HZ (fun v H1 => v = .ref f ∧ H1 = HZ) IZ ⟨.ref f, g1, rfl, rfl⟩) fun u s1 ⟨v, H1, I1, r1, q1⟩ => ?_)
  obtain ⟨ev, eH⟩ := q1
  subst ev eH
  obtain rfl : u = Value.ref f := r1
  have of1 : s1.heap.get? f = some (PySem.W.kla_obj lamQ (X.env.qual ++ lamQ) params body scope (cloFrom X.env.cells scope.names []) pm c' ctv) := I1.base.keep f _ hf hfn hfr (fun z => nomatch (show f ∈ ([] : List Addr) from z))
  refine PySem.W.callWith_F0 ⟨_, _, _, _, of1⟩ ?_
  have un : Un (frs X.stack) [] H H1 s.heap s1.heap := I1.base
  obtain ⟨⟨oc, vs, tq, hoc, hdc, hvc⟩, _, _⟩ := I1.hok c' _ hc
  let E' : XK := fun cls d H' => liX X.K B W cls d σZ H'
  have rc : codeAny (model X.prog X.w) (X.A.deeper (envOfC qg sg s.heap.objs.size g cdg)) (.call (.ref f) ⟨[], []⟩) (CR (L2.CX X.prog X.w) (envOfC qg sg s.heap.objs.size g cdg :: X.stack) X.prog X.w H1 s1 Q E') s1 := by
    refine PySem.W.kla_callFunE hr.r.depth of1 rfl L.co L.gen rfl ⟨c', oc, vs, tq, rfl, hoc, hdc, hvc⟩ ?_
    rw [hbind]
    refine wpAny_pure (wpAny_newFunctionEnv (fun y hy => (L.own y hy).2) (fun y hy => absurd hy (by simp)) (fun h₁ hns hsb => ⟨I1.nolimit.fresh _ hsb, ?_⟩) L.kind)
    show codeAny _ _ (.expr body (lamEnv X scope s1.heap.objs.size f c')) _ _
    have kp : ∀ b o, s1.heap.get? b = some o → h₁.get? b = some o := fun b o e => hsb.extBut b o (Nat.ne_of_lt (Heap.lt_size e)) (Heap.get?_push_of_some _ e)
    have J : Inv (lamCx X (X.A.deeper (envOfC qg sg s.heap.objs.size g cdg)) (envOfC qg sg s.heap.objs.size g cdg :: X.stack) s1 H1 E' scope f c') [] σ H1 { s1 with heap := h₁, toks := s1.toks + ([] : List (Str × Value)).length } :=
      LamX.lam_start2 I L I1.env0 hr.r.hd un hns kp
    have tkB : DTk (lamCx X (X.A.deeper (envOfC qg sg s.heap.objs.size g cdg)) (envOfC qg sg s.heap.objs.size g cdg :: X.stack) s1 H1 E' scope f c') ⟨M, H1⟩ (fun x _ M2 => W x dZ M2) := by
      refine Takes.imp (takes_of (X := lamCx X (X.A.deeper (envOfC qg sg s.heap.objs.size g cdg)) (envOfC qg sg s.heap.objs.size g cdg :: X.stack) s1 H1 E' scope f c') (E := E') rfl rfl rfl rfl) fun c dx σ' H' ⟨s', M', x, _, m', r, q⟩ => ?_
      exact ⟨dZ, M', x, hsZ.ts m'.b.s, ⟨m'.m, m.b.trans m'.b⟩, r.old m.b.s, q⟩
    have hs1 : SR X.K H1 σ s0 := hs.w un.tups un.frzs
    refine PySem.W.kla_codeExpr (wpAny_mono ((hbody _ _ s1 H1 E' (fun x _ M2 => W x dZ M2) ⟨M, H1⟩ ⟨hr.r.deeper _, hr.g⟩ tkB).run.run [] _ _ H1 Q J ⟨s0, M, P, hs1, ⟨m.m, .refl _ _⟩, e3, fun d M' p v H' r m' f' => w d M' p v H' r ⟨m'.m, m.b.trans f'⟩ f'⟩) (fun v s' hq => ?_) fun e s' hq => hq)
    obtain ⟨w', H', J', rv, q⟩ := hq
    exact ⟨w', H', J'.os, J'.bare, J'.base, J'.hok, rv, q⟩
  refine wpAny_call (codeAny_mono rc fun r s' hq => ?_)
  cases r with
  | error e => exact tk e s' (XE.of_call I1 (fun c d H' z => z) hq)
  | ok fl =>
    cases fl with
    | ret u => exact I1.after hq
    | next => exact False.elim hq
    | brk => exact False.elim hq
    | cont => exact False.elim hq
end
end DL
set_option linter.all false
/-! a def that is handed a lambda; defs whose code object stands at a known place -/
namespace DL
open PySem PySem.Spec PyProof.Rows L2
open LamX (CodeO LamS lamEnv lamCx TabB)
/-- a def of one parameter, which it calls: what it makes of what the call does -/
structure CalT (P₀ : Program) (w : World) (K : PySem.W.Frag) (mg : Str → Option Value) (base : Heap) (x : Str) (k : Nat) (TT : DTh → DHp → DK → DXK → Prop) : Prop where
  ex : ∃ (g : Addr) (fd : FuncData) (st : Stmt) (N : List Str) (a : Str), Fun K x x st g fd ∧ mg x = some (.ref g) ∧ Binds K fd [a] [] ∧ FnScope N [a] (defScope st) ∧ N[0]? = some a ∧ Vis (defScope st) a ∧ (a == ("__debug__" : Str)) = false ∧ (a == ("__classdict__" : Str)) = false ∧
    ∀ (cdv : Value) (A : Around) (outer : List Env) (s : Shared) (H : Hp) (E : XK) (M : DHp) (f c' : Addr) (q : Str) (th : DTh) (P : DK) (PE : DXK), RoomG (k + 1) (A.deeper (envOfC x (defScope st) s.heap.objs.size g cdv)) →
      DTk (cxOf (L2.CX P₀ w) P₀ w K mg base N x (defScope st) g cdv A outer s H E) ⟨M, H⟩ (Lx PE) →
      (∀ (pn : List (Addr × Obj)) (xe : Value → Shared → Prop) (W : DWX) (B : Bs) (p1 p2 : Pos), DTk ((cxOf (L2.CX P₀ w) P₀ w K mg base N x (defScope st) g cdv A outer s H E).tr pn xe) B W →
        DE ((cxOf (L2.CX P₀ w) P₀ w K mg base N x (defScope st) g cdv A outer s H E).tr pn xe) B (.Call (.Name a p1) [] [] p2) (dThk f c' q th W)) →
      M c' = some (.raw (CodeO c' q)) → TT th M P PE →
      ∃ t, DSs (cxOf (L2.CX P₀ w) P₀ w K mg base N x (defScope st) g cdv A outer s H E) ⟨M, H⟩ (defBody st) t ∧ t { nx := fun _ M' => Lk P .non M', rt := Lk P } (startD N [.ref f]) M
def dLam (T : List (Addr × Str)) (TT : DTh → DHp → DK → DXK → Prop) (t : DWX → DTE) (W : DWX) : DTE := fun s M Q => TabsM T M ∧ ∀ M1, LesN M M1 → TabsM T M1 → TT (fun M2 Q2 PE => t (fun x _ M3 => PE x M3) s M2 Q2) M1 Q fun x M2 => W x s M2
section
variable {X : Cx} {B : Bs} {W : DWX}
theorem de_lamcall {T : List (Addr × Str)} {TT : DTh → DHp → DK → DXK → Prop} {x : Str} {c Pt : Addr} {k : Nat} {params : Arguments} {body : Expr} {scope : Scope} {t : DWX → DTE} {p lpos pos : Pos} (C : CalT X.prog X.w X.K X.mg X.base x k TT) (hr : RoomG (k + 2) X.A) (tk : DTk X B W)
    (TB : TabB X.base X.mg c Pt) (hm : (Pt, X.env.qual ++ lamQ) ∈ T) (hu : ∀ p ∈ T, p.1 = Pt → p.2 = X.env.qual ++ lamQ)
    (hbody : ∀ (A : Around) (outer : List Env) (s : Shared) (H : Hp) (E : XK) (f c' : Addr) (WD : DWX) (B' : Bs), RoomG k (A.deeper (lamEnv X scope s.heap.objs.size f c')) → DTk (lamCx X A outer s H E scope f c') B' WD → DE (lamCx X A outer s H E scope f c') B' body (t WD))
    (hcode : X.env.code = .ref c := by rfl) (L : LamS X.env.scope scope := by exact LamX.lamS_by (by decide +kernel)) (hdef : defaultsOf params X.env = ([], []) := by rfl)
    (hbind : ∀ (q : Str) (cl : List (Str × Addr)) (pm cv ctv : Value), bindArgs (PySem.W.kla_fn lamQ q params body scope cl pm cv ctv) ⟨[], []⟩ = pure [] := by intros; rfl)
    (hg : Gl X x := by rfl) (hdb : (x == ("__debug__" : Str)) = false := by decide) :
    DE X B (.Call (.Name x p) [.Lambda params body scope lpos] [] pos) (dLam T TT t W) := by
  obtain ⟨g, fd, st, N, a, F, hmg, hb, Sg, hN, hv, hd, hcd, hbd⟩ := C.ex
  refine ⟨⟨fun pins s σ H Q I ⟨s0, M, P, hs, m, ⟨hT, h⟩, w⟩ => ?_⟩⟩
  refine wpAny_Call_Name_kw (ld_glob I hg hmg ?_ hdb)
  refine PySem.W.callWith_K (h₀ := X.base) I.ok.mod.kin F.kp ?_ (by rfl) (by rfl)
  show wpAny _ _ (spliced ((false, eval (.Lambda params body scope lpos) X.env) :: backTo pos (starEach [] X.env))) _ _ s
  obtain ⟨ps, hMP, htr, hall⟩ := hT _ hm
  have hP : H Pt = some (.tbl ps) := m.m _ _ hMP
  refine Calls.spliced_cons (lam_make3 I TB hcode rfl hP htr (fun pos cv e => ?_) hdef (L.has I.ok) fun f c' pm' ctv H1 s' I1 hnew hf hfn hfr hco => ?_)
  · obtain ⟨c1, e1, e2⟩ := hall pos cv e
    exact ⟨c1, e1, m.m _ _ e2⟩
  obtain ⟨M1, m1, f1, ln, hT1, hMc⟩ := tab_MB m hT hm hu hMP hco hnew
  refine Calls.spliced_nil ⟨I1.kIn, ?_⟩
  have hs1 : SR X.K H1 σ s0 := hs.ts f1.s
  let E' : XK := fun c dx H' => liX X.K B W c dx σ H'
  obtain ⟨oc, od, kV, doc, pm, an, cdv, ct, osl, rfl, lk, hcg⟩ := F.ex
  have rc : codeAny (model X.prog X.w) X.A (.call (.ref g) ⟨[.ref f], []⟩) (CR (L2.CX X.prog X.w) X.stack X.prog X.w H1 s' Q E') s' := by
    refine LamX.run_ofS (N := N) (ps := [a]) (us := [.ref f]) (vs := [.ref f]) (k := k + 1) lk hcg Sg hr.r I1.env0 (hb s' [.ref f] I1.kIn rfl) (.cons rfl .nil) rfl fun hr' => ?_
    have rg : RoomG (k + 1) (X.A.deeper (envOfC x (defScope st) s'.heap.objs.size g cdv)) := ⟨hr', hr.g⟩
    have tkC : DTk (cxOf (L2.CX X.prog X.w) X.prog X.w X.K X.mg X.base N x (defScope st) g cdv X.A X.stack s' H1 E') ⟨M1, H1⟩ (Lx fun y M2 => W y s0 M2) := by
      refine Takes.imp (takes_of (X := cxOf (L2.CX X.prog X.w) X.prog X.w X.K X.mg X.base N x (defScope st) g cdv X.A X.stack s' H1 E') (E := E') rfl rfl rfl rfl) fun c dx σ' H' ⟨s3, M3, y, _, m3, r3, M4, l, q⟩ => ?_
      exact ⟨s0, M4, y, hs1.ts m3.b.s, MB.les ⟨m3.m, m1.b.trans m3.b⟩ l, (r3.les l).old m1.b.s, q⟩
    obtain ⟨t', ht', hq'⟩ := hbd cdv X.A X.stack s' H1 E' M1 f c' (X.env.qual ++ lamQ) _ P (fun y M2 => W y s0 M2) rg tkC (fun pn xe W' B' p1 p2 tk' => act_D (q := X.env.qual ++ lamQ) I1 L rfl hf hfn hfr (hbind _ _ _ _ _) hs1 tk' rg (fun A outer s2 H2 E2 WD B2 => hbody A outer s2 H2 E2 f c' WD B2) hN hv hd hcd) hMc (h M1 ln hT1)
    refine ⟨_, ht'.run, startD N [.ref f], M1, _, ?_, ⟨m1.m, .refl _ _⟩, hq', ⟨fun s3 M3 ⟨M4, l, p⟩ σ3 H3 _ b c => ?_, fun d M3 ⟨M4, l, p⟩ v H3 r b c => ?_, fun _ _ z => z.elim, fun _ _ z => z.elim⟩⟩
    · show SR X.K H1 (L2.start N [.ref f]) (startD N [.ref f])
      exact SR.start _ (.cons (.ref f) .nil)
    · exact w _ _ p _ _ .non (MB.les ⟨b.m, m1.b.trans c⟩ l) ((f1.trans c).les l)
    · exact w _ _ p _ _ r (MB.les ⟨b.m, m1.b.trans c⟩ l) ((f1.trans c).les l)
  refine wpAny_call (codeAny_mono rc fun r s2 hq => ?_)
  cases r with
  | error e => exact tk e s2 (XE.of_call I1 (fun c d H' z => z) hq)
  | ok fl =>
    cases fl with
    | ret u => exact I1.after hq
    | next => exact False.elim hq
    | brk => exact False.elim hq
    | cont => exact False.elim hq
end
section
variable {P₀ : Program} {w : World} {K : PySem.W.Frag} {mg : Str → Option Value} {base : Heap}
/-- a def at a known code object -/
structure FunC (K : PySem.W.Frag) (x qual : Str) (st : Stmt) (f : Addr) (fd : FuncData) (c : Addr) : Prop where
  ex : ∃ (oc : Value) (od : Option Addr) (kV doc pm : Value) (an : Option Addr) (ct : Value) (osl : Array (Option Value)),
    fd = PySem.W.fnOf x qual (defArgs st) (defBody st) (defScope st) .none kV doc pm an (.ref c) ct ∧ K.lookup f = some ⟨oc, od, .func fd, osl⟩ ∧ PySem.W.codeIn K (.ref c) qual = true
  kp : PySem.W.keepIn K (.ref f) = true
theorem FunC.fun {x qual : Str} {st : Stmt} {f c : Addr} {fd : FuncData} (F : FunC K x qual st f fd c) : Fun K x qual st f fd := let ⟨oc, od, kV, doc, pm, an, ct, osl, e⟩ := F.ex; ⟨⟨oc, od, kV, doc, pm, an, .ref c, ct, osl, e⟩, F.kp⟩
structure DfC (K : PySem.W.Frag) (mg : Str → Option Value) (x : Str) (st : Stmt) (f : Addr) (fd : FuncData) (c : Addr) (ps : List Str) : Prop where
  F : FunC K x x st f fd c
  g : mg x = some (.ref f)
  b : Binds K fd ps []
theorem fn_DC {x qual : Str} {st : Stmt} {f c : Addr} {fd : FuncData} {N ps : List Str} {k : Nat} {sp : DSp} (F : FunC K x qual st f fd c) (S : FnScope N ps (defScope st)) (len : ∀ ds M P PE, sp ds M P PE → ds.length = ps.length)
    (hbody : ∀ (A : Around) (outer : List Env) (s : Shared) (H : Hp) (E : XK) (ds : List D) (M : DHp) (P : DK) (PE : DXK), RoomG k (A.deeper (envOfC qual (defScope st) s.heap.objs.size f (.ref c))) →
      DTk (cxOf (L2.CX P₀ w) P₀ w K mg base N qual (defScope st) f (.ref c) A outer s H E) ⟨M, H⟩ (Lx PE) → sp ds M P PE →
      ∃ t, DSs (cxOf (L2.CX P₀ w) P₀ w K mg base N qual (defScope st) f (.ref c) A outer s H E) ⟨M, H⟩ (defBody st) t ∧ t { nx := fun _ M' => Lk P .non M', rt := Lk P } (startD N ds) M) : FnD P₀ w K mg base (k + 1) f fd ps sp := by
  obtain ⟨oc, od, kV, doc, pm, an, ct, osl, rfl, lk, hcd⟩ := F.ex
  have len' : ∀ vs H Q E, liF K sp vs H Q E → vs.length = ps.length := fun vs H Q E ⟨ds, M, P, PE, r, _, h, _⟩ => by
    rw [r.length]
    exact len _ _ _ _ h
  refine ⟨len', fun A outer s H args us vs Q E rg e0 hb r hsp => ?_⟩
  have hl := len' _ _ _ _ hsp
  obtain ⟨ds, M, P, PE, rs, m, h, wq, we⟩ := hsp
  refine LamX.run_ofS (k := k) lk hcd S rg.r e0 hb r hl fun hr' => ?_
  have tk : DTk (cxOf (L2.CX P₀ w) P₀ w K mg base N qual (defScope st) f (.ref c) A outer s H E) ⟨M, H⟩ (Lx PE) := by
    refine Takes.imp (takes_of (X := cxOf (L2.CX P₀ w) P₀ w K mg base N qual (defScope st) f (.ref c) A outer s H E) (E := E) rfl rfl rfl rfl) fun c dx σ' H' ⟨s3, M3, y, _, m3, r3, M4, l, q⟩ => ?_
    exact we y M4 q c dx H' (r3.les l) (m3.m.les l) (m3.b.les l)
  obtain ⟨t, ht, hq⟩ := hbody A outer s H E ds M P PE ⟨hr', rg.g⟩ tk h
  have st0 : SR K H (L2.start N vs) (startD N ds) := by
    unfold L2.start startD
    rw [rs.length]
    exact SR.start _ rs
  exact ⟨_, ht.run, startD N ds, M, _, st0, ⟨m, .refl _ _⟩, hq, ⟨fun s' M' ⟨M2, l, p⟩ σ' H' _ b c => wq _ _ p _ _ .non (b.m.les l) (c.les l), fun d M' ⟨M2, l, p⟩ v H' a b c => wq _ _ p _ _ a (b.m.les l) (c.les l), fun _ _ z => z.elim, fun _ _ z => z.elim⟩⟩
end
end DL
set_option linter.all false
/-! the law's end, with values and tables of code objects -/
namespace DL
open PySem PySem.Spec PyProof.Rows L2
open LamX (CodeO TabB)
/-- the script and the tables, told -/
def scT (a : Addr) (ns : List Int) (ts : List Addr) : DHp := fun b => if b = a then some (.frz (ns.map D.int)) else if b ∈ ts then some (.raw (.tbl #[])) else none
theorem scT_tab {a : Addr} {ns : List Int} {ts : List Addr} {p : Addr} {q : Str} (h : p ∈ ts) (n : p ≠ a) : TabM (scT a ns ts) p q :=
  ⟨#[], by unfold scT; rw [if_neg n, if_pos h], True.intro, fun pos cv e => by
    have e : codeAmong pos [] = some cv := e
    simp [codeAmong] at e⟩
def LawT (l : PySem.W.OpenLaw) (w : World) (K : PySem.W.Frag) (k n : Nat) (x : Str) (mg : Str → Option Value) (fa : Addr) (h : Heap) : Prop :=
  ∃ (fd : FuncData) (cs : List (Addr × Addr)) (sp : DSp), (∀ p ∈ cs, h.get? p.2 = some { cls := .none, data := .fields #[] }) ∧ (∀ p ∈ cs, K.lookup p.2 = none) ∧ (∀ p ∈ cs, PySem.W.CodeHd h p.1 p.2) ∧ Binds K fd [x] [] ∧
    (∀ (a : Addr) (ns : List Int), (∀ p ∈ cs, p.2 ≠ a) → ns.length ≤ n → (∀ z ∈ ns, Builtin.Int.intBits z ≤ 1048576) → sp [.ref a] (scT a ns (cs.map (·.2))) (fun d _ => d = .bl true) fun _ _ => False) ∧
    ∀ base : Heap, K.In base → base.Ns mainGlobals mg → (∀ p ∈ cs, TabB base mg p.1 p.2) → FnD l.prog w K mg base k fa fd [x] sp
section
variable {P : Program} {w : World} {K : PySem.W.Frag} {mg : Str → Option Value}
theorem law_runT {mb : Str → Option Value} {k : Nat} {fa a : Addr} {cs : List (Addr × Addr)} {fd : FuncData} {x : Str} {sp : DSp} {s : Shared} {vs : List Value} {ns : List Int} (rg : RoomG k callerA) (kin : K.In s.heap) (nk : K.lookup a = none) (glob : s.heap.Ns mainGlobals mg) (bn : s.heap.Ns builtinsNs mb)
    (bb : ∀ x : Str, x ≠ "__name__" → mb x = bootBuiltins x) (nl : s.heap.NoLimit) (gens : s.gens = #[]) (hT : ∀ p ∈ cs, s.heap.get? p.2 = some { cls := .none, data := .fields #[] }) (nT : ∀ p ∈ cs, K.lookup p.2 = none) (C : ∀ p ∈ cs, PySem.W.CodeHd s.heap p.1 p.2)
    (hbm : ∃ (bm : Addr) (ob : Obj), mg "__builtins__" = some (.ref bm) ∧ bm ≠ builtinsNs ∧ s.heap.get? bm = some ob ∧ ob.cls = .type "module" ∧ ob.dict = some builtinsNs ∧ ob.data = .plain)
    (obj : s.heap.get? a = some { cls := .type "list", data := .seq vs.toArray }) (inI : IntsAre vs ns) (short : ns.length ≤ sizeLine)
    (F : ∀ base : Heap, K.In base → base.Ns mainGlobals mg → (∀ p ∈ cs, TabB base mg p.1 p.2) → FnD P w K mg base k fa fd [x] sp) (hb : Binds K fd [x] []) (hs : (∀ p ∈ cs, p.2 ≠ a) → sp [.ref a] (scT a ns (cs.map (·.2))) (fun d _ => d = .bl true) fun _ _ => False) :
    codeAny (model P w) callerA (.call (.ref fa) ⟨[.ref a], []⟩) (fun r s' => r = .ok (.ret (.bool true)) ∧ OldK s.heap s'.heap ∧ s'.os = s.os ∧ AllBare s'.gens) s := by
  let O : Obj := { cls := .type "list", data := .seq vs.toArray }
  let ts := cs.map (·.2)
  have isT : ∀ b ∈ ts, s.heap.get? b = some { cls := .none, data := .fields #[] } := fun b hb => by
    obtain ⟨p, hp, e⟩ := List.mem_map.mp hb
    exact e ▸ hT p hp
  have inT : ∀ p ∈ cs, p.2 ∈ ts := fun p hp => List.mem_map_of_mem hp
  have aT : a ∉ ts := fun z => by
    have q := (isT a z).symm.trans obj
    have q := congrArg Obj.cls (Option.some.inj q)
    cases q
  have pa : ∀ p ∈ cs, p.2 ≠ a := fun p hp z => aT (z ▸ inT p hp)
  let H : Hp := fun b => if b = a then some (.frz O (.lst (ns.map V.int))) else if b ∈ ts then some (.tbl #[]) else none
  have Ha : H a = some (.frz O (.lst (ns.map V.int))) := if_pos rfl
  have Ht : ∀ {b : Addr}, b ∈ ts → H b = some (.tbl #[]) := fun {b} h => (if_neg (fun (z : b = a) => aT (by rw [← z]; exact h))).trans (if_pos h)
  have Hn : ∀ {b}, b ≠ a → b ∉ ts → H b = none := fun n n2 => (if_neg n).trans (if_neg n2)
  have off : ∀ {b : Addr} {o : Obj}, s.heap.get? b = some o → o ≠ O → o ≠ { cls := .none, data := .fields #[] } → H b = none := fun {b o} e n n2 => Hn (fun z => by
    subst z
    exact n (Option.some.inj (e.symm.trans obj))) fun z => n2 (Option.some.inj (e.symm.trans (isT b z)))
  have ns_ : ∀ {b : Addr} {m : Str → Option Value}, s.heap.Ns b m → (hidT s.heap H).Ns b m := fun ⟨o, es, ep, e, d, r⟩ => ⟨o, es, ep, hidT_get e (off e (fun z => by rw [z] at d; cases d) fun z => by rw [z] at d; cases d), d, r⟩
  have kin' : K.In (hidT s.heap H) := fun b o e => hidT_get (kin b o e) (Hn (fun z => by rw [z, nk] at e; cases e) fun z => by
    obtain ⟨p, hp, q⟩ := List.mem_map.mp z
    rw [← q, nT p hp] at e
    cases e)
  have hok : HOk P w H s.heap := fun b u z => by
    by_cases q : b = a
    · subst q
      have z' := Ha.symm.trans z
      cases z'
      exact ⟨obj, by rw [List.length_map]; exact short, vs, _, vals_ints inI, obj⟩
    · by_cases q2 : b ∈ ts
      · have z' := (Ht q2).symm.trans z
        cases z'
        exact isT b q2
      · have z' := (Hn q q2).symm.trans z
        cases z'
  obtain ⟨mc, c1, c2⟩ := nl
  have E : Env0 P w K mg (hidT s.heap H) callerA [] s H :=
    { frames := rfl, mod := ⟨kin', ns_ glob, ⟨mb, ns_ bn, bb⟩, mc, ns_ c1, c2⟩, bs := fun _ _ e => of_hidT e, bsz := Nat.le_of_eq (hidT_size _ _), funs := trivial, frf := fun _ m => absurd m List.not_mem_nil, hok := hok, bare := .of_eq gens }
  have TB : ∀ p ∈ cs, TabB (hidT s.heap H) mg p.1 p.2 := fun p hp => by
    refine ⟨?_, ?_, fun z => ?_⟩
    · obtain ⟨o, us, file, tf, flags, tg, inF, text, tt, e1, r1, r2, r3, r4, r5, r6, r7, r8, hne⟩ := C p hp
      refine ⟨o, us, file, tf, flags, tg, inF, text, tt, hidT_get e1 (off e1 (fun z => by rw [z] at r2; cases r2) fun z => ?_), r1, r2, r3, r4, r5, r6, r7, r8, hne⟩
      rw [z] at r2
      cases r2
      simp at r3
    · obtain ⟨bm, ob, b1, b2, b3, b4, b5, b6⟩ := hbm
      refine ⟨bm, ob, b1, b2, fun q => ?_, fun q => ?_, hidT_get b3 (off b3 (fun z => by rw [z] at b6; cases b6) fun z => by rw [z] at b6; cases b6), b4, b5, b6⟩
      · obtain ⟨o, es, ep, e, hd, _⟩ := glob
        rw [q, e] at b3
        cases b3
        rw [hd] at b6
        cases b6
      · rw [q, hT p hp] at b3
        cases b3
        cases b6
    · obtain ⟨o, es, ep, e, hd, _⟩ := glob
      rw [z, hT p hp] at e
      cases e
      cases hd
  have lf : liF K sp [.ref a] H (fun v _ => v = .bl true) fun _ _ _ => False := by
    refine ⟨_, scT a ns ts, _, _, .cons (.ref a) .nil, fun b o e => ?_, hs pa, fun d M' q v H' r _ _ => ?_, fun _ _ z => z.elim⟩
    · by_cases q : b = a
      · subst q
        have e' := (if_pos rfl).symm.trans e
        cases e'
        exact ⟨O, _, Ha, drs_ints ns⟩
      · by_cases q2 : b ∈ ts
        · have e' := ((if_neg q).trans (if_pos q2)).symm.trans e
          cases e'
          exact Ht q2
        · have e' := ((if_neg q).trans (if_neg q2)).symm.trans e
          cases e'
    · subst q
      cases r
      rfl
  have hbt : BindsTo s fd ⟨[.ref a], []⟩ ([x].zip [.ref a]) := by
    have z := hb s [.ref a] kin rfl
    exact z
  refine codeAny_mono ((F _ kin' (ns_ glob) TB).run callerA [] s H ⟨[.ref a], []⟩ [.ref a] [.ref a] _ _ rg E hbt (.cons rfl .nil) lf) fun r s' z => ?_
  match r, z with
  | .error _, z =>
    have z : (L2.CX P w) [] H s (fun _ _ _ => False) _ s' := z
    obtain ⟨_, _, _, _, _, _, _, _, y⟩ := z
    simp at y
  | .ok .next, z => exact False.elim z
  | .ok .brk, z => exact False.elim z
  | .ok .cont, z => exact False.elim z
  | .ok (.ret u), ⟨v, H', os, bare, un, hok', rel, q⟩ =>
    have q : v = .bl true := q
    subst q
    have rel : u = Value.bool true := rel
    have grown : ∀ b ∈ ts, ∃ more : Array Value, s'.heap.get? b = some { cls := .none, data := .fields more } := fun b hb => by
      obtain ⟨more, z⟩ := un.tbls b #[] (Ht hb)
      exact ⟨_, hok' b _ z⟩
    have old : ∀ b o, b ∉ ts → s.heap.get? b = some o → s'.heap.get? b = some o := fun b o nb e => by
      by_cases q : b = a
      · subst q
        cases e.symm.trans obj
        exact (hok' _ _ (un.frzs _ _ _ Ha)).1
      · exact un.keep b o e (Hn q nb) (fun m => absurd (show b ∈ ([] : List Addr) from m) List.not_mem_nil) fun m => absurd m List.not_mem_nil
    refine ⟨by rw [rel], ⟨fun b o e => ?_, fun b o e => ?_⟩, os, bare⟩
    · by_cases nb : b ∈ ts
      · obtain ⟨p, hp, q⟩ := List.mem_map.mp nb
        obtain ⟨more, hm⟩ := grown b nb
        have tb := ((C p hp).tab (hT p hp)).isCodeTable
        cases (isT b nb).symm.trans e
        have q : p.2 = b := q
        rw [q] at tb
        exact .inr (.inl ⟨tb, rfl, #[], more, rfl, by rw [Array.empty_append]; exact hm⟩)
      · exact .inl (old b o nb e)
    · by_cases nb : b ∈ ts
      · obtain ⟨more, hm⟩ := grown b nb
        exact ⟨_, hm⟩
      · exact ⟨o, old b o nb e⟩
end
/-- a def whose code object has an empty table, in the head's heap -/
def EmTab (x : Str) (K : PySem.W.Frag) (mg : Str → Option Value) (h : Heap) : Prop := ∀ (f c : Addr) (o : Obj) (fd : FuncData), mg x = some (.ref f) → K.lookup f = some o → o.data = .func fd → fd.code = .ref c →
  ∃ Pt, PySem.W.CodeHd h c Pt ∧ h.get? Pt = some { cls := .none, data := .fields #[] }
theorem walk_T {l : PySem.W.OpenLaw} {n k : Nat} {x : Str} {xs : List Str} {q : Program} {loose : List Str} {XP : (Str → Option Value) → Heap → Prop} {YP : World → Heap → Prop} {d : DefRec} {K : Params → PySem.W.Frag} (hn : l.most = some n) (hn2 : n ≤ sizeLine) (hdf : d.params.defaults = [])
    (hrec : ∀ x ∈ xs, ((recsOf q).any fun e => e.name == x) = true) (rg : RoomG k callerA) (hY : ∀ (w : World) (h : Heap), YP w h → (K w.params).In h) (nol : ∀ w : World, noLsts (K w.params) = true)
    (F : ∀ (w : World) (mg : Str → Option Value) (fa : Addr) (h : Heap), (K w.params).In h → h.Ns mainGlobals mg → mg d.name = some (.ref fa) → (∀ x ∈ xs, EmTab x (K w.params) mg h) → LawT l w (K w.params) k n x mg fa h) : PySem.W.WalkO q loose XP YP l.row.toRowW d [] (fun f vs => PySem.call f vs) :=
  Att.attach_callB hn hdf fun w _ s mg mb fa _ _ _ _ a vs ns G Y _ _ _ hmg obj inI len bits gens => by
    have kin := hY w _ Y
    have tt : ∀ x ∈ xs, EmTab x (K w.params) mg s.heap := fun y hx f c o fd g1 g2 g3 g4 => by
      obtain ⟨e, he, hn1⟩ := List.any_eq_true.mp (hrec y hx)
      obtain ⟨b, ob, fb, cb, Pt, i1, i2, i3, i4, i5, i6⟩ := G.T.tab e he
      rw [beq_iff_eq.mp hn1, g1] at i1
      cases i1
      cases (kin _ _ g2).symm.trans i2
      cases g3.symm.trans i3
      cases g4.symm.trans i4
      exact ⟨Pt, .of i5 i6, i6.2⟩
    obtain ⟨fd, cs, sp, hT, nT, C, hb, hs, hF⟩ := F w mg fa _ kin G.T.g hmg tt
    have nk : (K w.params).lookup a = none := by
      cases e : (K w.params).lookup a with
      | none => rfl
      | some o =>
        have c := kin _ _ e
        rw [obj] at c
        cases c
        exact (noLsts.at (nol w) e rfl).elim
    exact law_runT rg kin nk G.T.g G.T.b G.T.builtins G.T.nolimit gens hT nT C G.T.bmain obj inI (Nat.le_trans len hn2) hF hb fun pa => hs a ns pa len bits
end DL
set_option linter.all false
/-! min, max of a list of ints -/
namespace DL
open PySem PySem.Spec PyProof.Rows L2
def minLD : DFn := one fun d M Q => ∃ (p : Addr) (ns : List Int), d = .ref p ∧ LstAt M p (ns.map D.int) ∧ 0 < ns.length ∧ ∀ m, m ∈ ns → (∀ y, y ∈ ns → m ≤ y) → Q (.int m) M
def maxLD : DFn := one fun d M Q => ∃ (p : Addr) (ns : List Int), d = .ref p ∧ LstAt M p (ns.map D.int) ∧ 0 < ns.length ∧ ∀ m, m ∈ ns → (∀ y, y ∈ ns → y ≤ m) → Q (.int m) M
theorem DRs.erase {K : PySem.W.Frag} {H : Hp} : ∀ {vs : List V} {ds : List D} (i : Nat), DRs K H vs ds → DRs K H (vs.eraseIdx i) (ds.eraseIdx i)
  | _, _, _, .nil => .nil
  | _, _, 0, .cons _ t => t
  | _, _, i + 1, .cons a t => .cons a (DRs.erase i t)
/-- list.pop(i), i a place -/
def popID : DMt := fun d es M Q => ∃ (p : Addr) (j : Nat) (x : D) (ds : List D), d = .ref p ∧ es = [.int j] ∧ M p = some (.lst ds) ∧ ds[j]? = some x ∧ j < 2 ^ 62 ∧ Q x (upM M p (.lst (ds.eraseIdx j)))
section
variable {X : Cx} {B : Bs}
theorem mt_popI : MtR X "list.pop" (liMt X.K B popID) := mt_D mt_popAt fun v vs H Q ⟨d, es, M, P, rd, rs, m, ⟨p, j, x, ds, e1, e2, h1, h2, h3, q⟩, w⟩ => by
  subst e1 e2
  cases rd
  cases rs with
  | cons r t =>
    cases t
    cases r
    obtain ⟨us, g1, g2⟩ := m.m _ _ h1
    obtain ⟨y, k1, k2⟩ := g2.getD h2
    obtain ⟨m2, f2⟩ := m.lput g1 h1 (g2.erase j)
    have hj := (List.getElem?_eq_some_iff.mp k1).1
    have e : seqIndex? (j : Int) us.length = some j := by
      unfold seqIndex?
      simp
      omega
    exact ⟨p, us, j, j, y, rfl, rfl, g1, by omega, by omega, e, k1, w _ _ q _ _ (k2.ts f2.s) m2 f2⟩
theorem cr_minL (hc : X.calm = true) : CallR X (.builtin "min") (liC X.K B minLD) := fun pins s σ H xs us Q I r ⟨ds, M, P, rs, m, h, w⟩ => by
  obtain ⟨v, d, rfl, rfl, r1, p, ns, rfl, h0, h1, h⟩ := vs1 rs h
  cases r1
  obtain ⟨vs, t, rs⟩ := h0.sq m
  rw [rs.ints] at t
  exact L2.cr_min hc pins s σ H _ us Q I r ⟨_, _, rfl, t, h1, fun k a b => w _ _ (h k a b) _ _ (.int _) m (.refl _ _)⟩
theorem cr_maxL (hc : X.calm = true) : CallR X (.builtin "max") (liC X.K B maxLD) := fun pins s σ H xs us Q I r ⟨ds, M, P, rs, m, h, w⟩ => by
  obtain ⟨v, d, rfl, rfl, r1, p, ns, rfl, h0, h1, h⟩ := vs1 rs h
  cases r1
  obtain ⟨vs, t, rs⟩ := h0.sq m
  rw [rs.ints] at t
  exact L2.cr_max hc pins s σ H _ us Q I r ⟨_, _, rfl, t, h1, fun k a b => w _ _ (h k a b) _ _ (.int _) m (.refl _ _)⟩
end
end DL
set_option linter.all false
/-! dicts: of tuples, of numbers and texts -/
namespace DL
open PySem PySem.Spec PyProof.Rows L2
/-- one entry more -/
abbrev addE {α β : Type} (kvs : List (α × β)) (k : α) (v : β) : List (α × β) := kvs ++ [(k, v)]
/-- what stands at a key -/
def lk {α β : Type} [DecidableEq α] (kvs : List (α × β)) (k : α) : Option β := (kvs.find? fun kv => decide (kv.1 = k)).map (·.2)
def dDNew (P : Program) (w : World) : DTE := fun _ M Q => (∀ p, M p = none → Q (.ref p) (upM M p (.dic P w []))) ∨ (∀ p, M p = none → Q (.ref p) (upM M p (.dki [])))
def kD : Key → D
  | .inl i => .int i
  | .inr x => .str x
/-- d.setdefault(y, z) -/
def setdD (P : Program) (w : World) : D → D → D → DHp → DK → Prop := fun d y z M Q => ∃ p, d = .ref p ∧
  ((∃ kvs ds k, M p = some (.dic P w kvs) ∧ y = .tup ds ∧ NK (.tup ds) k ∧ k.depth ≤ 8 ∧ kvs.length < sizeLine ∧ (∀ v, lk kvs k = some v → Q v M) ∧ (lk kvs k = none → Q z (upM M p (.dic P w (addE kvs k z))))) ∨
   (∃ kvs k, M p = some (.dki kvs) ∧ y = kD k ∧ kvs.length < sizeLine ∧ (∀ v, lk kvs k = some v → Q v M) ∧ (lk kvs k = none → Q z (upM M p (.dki (addE kvs k z))))))
def IsDic (P : Program) (w : World) (M : DHp) (p : Addr) : Prop := (∃ kvs, M p = some (.dic P w kvs)) ∨ ∃ kvs, M p = some (.dki kvs)
def dSetd (P : Program) (w : World) (td ty tx : DTE) : DTE := fun s M Q => td s M fun d M1 => (∃ p, d = .ref p ∧ IsDic P w M1 p) ∧ ty s M1 fun y M2 => tx s M2 fun z M3 => setdD P w d y z M3 Q
/-- len of a dict too -/
def lenD2 (P : Program) (w : World) : DFn := one fun d M Q => lenD [d] M Q ∨ ∃ p, d = .ref p ∧ ((∃ kvs, M p = some (.dic P w kvs) ∧ Q (.int (kvs.length : Nat)) M) ∨ ∃ kvs, M p = some (.dki kvs) ∧ Q (.int (kvs.length : Nat)) M)
/-- d[k] too -/
def ixD2 (P : Program) (w : World) : DOp := fun d e M Q => ixD d e M Q ∨ ∃ p kvs ds k v, d = .ref p ∧ M p = some (.dic P w kvs) ∧ e = .tup ds ∧ NK (.tup ds) k ∧ k.depth ≤ 8 ∧ lk kvs k = some v ∧ Q v M
section
variable {X : Cx} {B : Bs} {pins : List (Addr × Obj)} {σ : VS} {H : Hp} {s : Shared}
mutual
theorem NK.is (I : Inv X pins σ H s) : ∀ {d : D} {k : NestedKey} {v : V} {u : Value}, NK d k → DR X.K H v d → RelV v u → NestedIs s.heap k u
  | _, _, _, _, .non, r, q => by cases r; cases q; exact .none
  | _, _, _, _, .bl b, r, q => by cases r; cases q; exact .bool rfl
  | _, _, _, _, .int i, r, q => by cases r; obtain ⟨t, rfl⟩ := q; exact .int _ _
  | _, _, _, _, .str x, r, q => by cases r; obtain ⟨t, rfl⟩ := q; exact .text _ _
  | _, _, _, _, .tup n, r, q => by
    cases r with
    | tup t rs =>
      cases q
      obtain ⟨its, rv, ⟨o, ho, hc, m, hd⟩, _⟩ := I.tuple t.sq
      exact .tup ho hc hd (by simpa using n.is I rs rv)
theorem NKs.is (I : Inv X pins σ H s) : ∀ {d : List D} {k : List NestedKey} {v : List V} {u : List Value}, NKs d k → DRs X.K H v d → Vals v u → NestedAll s.heap k u
  | _, _, _, _, .nil, r, q => by cases r; cases q; exact .nil
  | _, _, _, _, .cons n ns, r, q => by
    cases r with
    | cons r1 r2 =>
      cases q with
      | cons q1 q2 => exact .cons (n.is I r1 q1) (ns.is I r2 q2)
end
theorem KeyAt.is (I : Inv X pins σ H s) {b : Addr} {k : NestedKey} (h : KeyAt X.K H b k) : (nestedKind X.prog X.w).is s.heap k b := by
  obtain ⟨ds, h1, h2, h3⟩ := h
  exact ⟨h2.is I h1 rfl, h3⟩
theorem dic_at (I : Inv X pins σ H s) {a : Addr} {kvs : List (NestedKey × D)} {es : List (NestedKey × Addr × Value)} (h : H a = some (.ext (DicEs X.prog X.w a es))) (r : Paired (DicR X.K H) kvs es) :
    s.heap.DictOfH (nestedKind X.prog X.w) a es ∧ es.length ≤ sizeLine ∧ (a == sysModules) = false := by
  obtain ⟨⟨o, ds, ep, h1, h2, h3, h4, h5, h6, h7⟩, _⟩ := I.hok a _ h
  refine ⟨⟨o, ds, ep, h1, h2, h3, h4, fun x hx => ?_, h5⟩, h6, h7⟩
  have : ∀ {kvs : List (NestedKey × D)} {es : List (NestedKey × Addr × Value)}, Paired (DicR X.K H) kvs es → ∀ x ∈ es, (nestedKind X.prog X.w).is s.heap x.1 x.2.1 := fun r => by
    induction r with
    | nil => intro x hx; cases hx
    | cons z _ ih =>
      intro x hx
      rcases List.mem_cons.mp hx with rfl | hx
      · rw [← z.1]; exact z.2.1.is I
      · exact ih x hx
  exact this r x hx
theorem dic_new (a : Addr) {es : List (NestedKey × Addr × Value)} {H : Hp} {h : Heap} (hl : es.length ≤ sizeLine) (hs : (a == sysModules) = false) (hm : h.DictOfH (nestedKind X.prog X.w) a es) : ObjOk X.prog X.w H h a (.ext (DicEs X.prog X.w a es)) := by
  obtain ⟨o, ds, ep, h1, h2, h3, h4, h5, h6⟩ := hm
  exact ⟨⟨o, ds, ep, h1, h2, h3, h4, h6, hl, hs⟩, ⟨o, h1⟩, fun g1 g2 ⟨o, ds, ep, k1, k⟩ kk => ⟨o, ds, ep, kk o k1, k⟩⟩
theorem paired_len {α β : Type} {F : α → β → Prop} {l : List α} {m : List β} (h : Paired F l m) : l.length = m.length := by
  induction h with
  | nil => rfl
  | cons _ _ ih => exact congrArg Nat.succ ih
theorem dic_look {K : PySem.W.Frag} {H : Hp} {kvs : List (NestedKey × D)} {es : List (NestedKey × Addr × Value)} (r : Paired (DicR K H) kvs es) (k : NestedKey) :
    (lk kvs k = none ∧ atKey es k = none) ∨ ∃ d p v, lk kvs k = some d ∧ atKey es k = some p ∧ RelV v p.2 ∧ DR K H v d := by
  induction r with
  | nil => exact .inl ⟨rfl, rfl⟩
  | @cons a b l m z _ ih =>
    obtain ⟨a1, a2⟩ := a
    obtain ⟨b1, b2, b3⟩ := b
    obtain ⟨e, _, v, z1, z2⟩ := z
    cases e
    by_cases q : a1 = k
    · subst q
      exact .inr ⟨a2, (b2, b3), v, by simp [lk], by simp [atKey], z1, z2⟩
    · have e1 : lk ((a1, a2) :: l) k = lk l k := by simp [lk, q]
      have e2 : atKey ((a1, b2, b3) :: m) k = atKey m k := by simp [atKey, q]
      rw [e1, e2]
      exact ih
theorem dki_look {K : PySem.W.Frag} {H : Hp} {kvs : List (Key × D)} {vs : List (Key × V)} (r : Paired (DkiR K H) kvs vs) (k : Key) :
    (lk kvs k = none ∧ valV vs k = none) ∨ ∃ d v, lk kvs k = some d ∧ valV vs k = some v ∧ DR K H v d := by
  induction r with
  | nil => exact .inl ⟨rfl, rfl⟩
  | @cons a b l m z _ ih =>
    obtain ⟨a1, a2⟩ := a
    obtain ⟨b1, b2⟩ := b
    obtain ⟨e, z2⟩ := z
    cases e
    by_cases q : a1 = k
    · subst q
      exact .inr ⟨a2, b2, by simp [lk], by simp [valV], z2⟩
    · have e1 : lk ((a1, a2) :: l) k = lk l k := by simp [lk, q]
      have e2 : valV ((a1, b2) :: m) k = valV m k := by simp [valV, q]
      rw [e1, e2]
      exact ih
theorem paired_app {α β : Type} {F : α → β → Prop} {l l' : List α} {m m' : List β} (h : Paired F l m) (h' : Paired F l' m') : Paired F (l ++ l') (m ++ m') := by
  induction h with
  | nil => exact h'
  | cons z _ ih => exact .cons z ih
theorem lk_len {α β γ : Type} {F : α → β → Prop} {l : List α} {m : List β} (h : Paired F l m) : l.length = m.length := paired_len h
variable {e f o a b : Expr} {td ty tx te ta tb : DTE} {u : DTA} {pos apos cpos p : Pos}
theorem de_dnew : DE X B (.Dict [] [] pos) (dDNew X.prog X.w) := ⟨⟨fun pins s σ H Q I ⟨s0, M, P, hs, hm, h, w⟩ => by
  rcases h with h | h
  · refine wpAny_Dict_empty ⟨.ref s.heap.objs.size, _, I.laid (a := s.heap.objs.size) (o := .ext (DicEs X.prog X.w s.heap.objs.size [])) (t' := s.toks) (fun _ _ q => Heap.get?_push_of_some _ q) (Nat.le_refl _) ?_, rfl, ?_⟩
    · exact dic_new _ (Nat.zero_le _) (beq_eq_false_iff_ne.mpr (Ne.symm (Nat.ne_of_lt I.big))) (Heap.DictOfH.new s.heap)
    · have hp := I.hok.fresh (Nat.le_refl _)
      obtain ⟨m2, f2⟩ := hm.new (d := .dic X.prog X.w []) hp ⟨[], upd_same, .nil⟩
      exact w _ _ (h _ (hm.free hp)) _ _ (.ref _) m2 f2
  · refine wpAny_Dict_empty ⟨.ref s.heap.objs.size, _, I.laid (a := s.heap.objs.size) (o := .dK []) (t' := s.toks) (fun _ _ q => Heap.get?_push_of_some _ q) (Nat.le_refl _) (dk_empty s.heap I.big), rfl, ?_⟩
    have hp := I.hok.fresh (Nat.le_refl _)
    obtain ⟨m2, f2⟩ := hm.new (d := .dki []) hp ⟨[], upd_same, .nil⟩
    exact w _ _ (h _ (hm.free hp)) _ _ (.ref _) m2 f2⟩⟩
theorem dic_type (I : Inv X pins σ H s) {M : DHp} (m : MB X.K B M H) {p : Addr} (h : IsDic X.prog X.w M p) : s.TypeIs (.ref p) "dict" ∧ (∀ b, Value.ref p = .ref b → ∃ ob, s.heap.get? b = some ob ∧ ob.dict = none) := by
  rcases h with ⟨kvs, h⟩ | ⟨kvs, h⟩
  · obtain ⟨es, h1, h2⟩ := m.m _ _ h
    obtain ⟨⟨o, ds, ep, k1, k2, k3, _⟩, _, _⟩ := dic_at I h1 h2
    exact ⟨⟨o, k1, k2.1⟩, fun b e => by cases e; exact ⟨o, k1, k2.2.1⟩⟩
  · obtain ⟨vs, h1, h2⟩ := m.m _ _ h
    obtain ⟨a1, a2, _⟩ := isD_at I (.inl ⟨vs, .inl h1⟩)
    exact ⟨a1, a2⟩
theorem kD_V {K : PySem.W.Frag} {H : Hp} {k : Key} {v : V} (r : DR K H v (kD k)) : v = kV k := by
  cases k with
  | inl i => cases r; rfl
  | inr x => cases r; rfl
theorem storedH_none {es : List (NestedKey × Addr × Value)} {k : NestedKey} (h : atKey es k = none) (a : Addr) (v : Value) : storedH es k a v = es ++ [(k, a, v)] := storedH_new h a v
theorem putK_none {vs : List (Key × V)} {k : Key} (h : valV vs k = none) (v : V) : putK vs k v = vs ++ [(k, v)] := by
  unfold putK
  have : (vs.any fun kv => decide (kv.1 = k)) = false := by
    unfold valV at h
    rw [Option.map_eq_none_iff, List.find?_eq_none] at h
    rw [List.any_eq_false]
    exact h
  rw [this]
  rfl
theorem setd_run (hu : X.A.units + 9 < cLine) {M : DHp} {d y z : D} {P : DK} {Q : VK} {dv yv zv : V} {du yu zu : Value} (I : Inv X pins σ H s) (m : MB X.K B M H) (rd : DR X.K H dv d) (ry : DR X.K H yv y) (rz : DR X.K H zv z)
    (qd : RelV dv du) (qy : RelV yv yu) (qz : RelV zv zu) (h : setdD X.prog X.w d y z M P) (w : Wv X.K B M H P Q) :
    wpAny (model X.prog X.w) X.A (call (.builtin "dict.setdefault") [du, yu, zu]) (EP X pins σ Q) X.xe s := by
  obtain ⟨p, rfl, ⟨kvs, ds, k, h1, rfl, nk, hk, hl, q1, q2⟩ | ⟨kvs, k, h1, rfl, hl, q1, q2⟩⟩ := h
  · cases rd
    cases qd
    obtain ⟨es, e1, e2⟩ := m.m _ _ h1
    obtain ⟨hd, hz, hs⟩ := dic_at I e1 e2
    have le := paired_len e2
    cases ry with
    | tup t rs =>
      cases qy
      have hka : KeyAt X.K H _ k := ⟨ds, .tup t rs, nk, hk⟩
      refine call_setdefault_heap (knd := nestedKind X.prog X.w) (hsz := hz) (show X.A.units + 1 + 8 < cLine by omega) (hka.is I) hs hd (fun pp hp => ?_) (fun hn h' hm' sb => ?_)
      · rcases dic_look e2 k with ⟨a1, a2⟩ | ⟨dd, pp', v, a1, a2, a3, a4⟩
        · rw [a2] at hp; cases hp
        · rw [a2] at hp
          cases hp
          exact ⟨v, H, I.tok _, a3, w _ _ (q1 _ a1) _ _ a4 m (.refl _ _)⟩
      · rcases dic_look e2 k with ⟨a1, a2⟩ | ⟨dd, pp', v, a1, a2, a3, a4⟩
        · rw [storedH_none hn] at hm'
          have he : ∃ q, h'.get? p = some q := let ⟨q, _, _, hq, _⟩ := hm'; ⟨q, hq⟩
          have new : ∀ H1 : Hp, ObjOk X.prog X.w H1 h' p (.ext (DicEs X.prog X.w p (es ++ [(k, _, zu)]))) := fun H1 => dic_new p (by rw [List.length_append, ← le]; exact hl) hs hm'
          obtain ⟨m2, f2⟩ := m.putG (o := .ext (DicEs X.prog X.w p (es ++ [(k, _, zu)]))) (d := .dic X.prog X.w (addE kvs k z)) e1 (fun _ e => by cases e) (fun _ _ e => by cases e) h1 fun ts =>
            ⟨_, upd_same, paired_app (Paired.mapP e2 fun _ _ z => z.ts ts) (.cons ⟨rfl, ⟨ds, (DR.tup t rs).ts ts, nk, hk⟩, zv, qz, rz.ts ts⟩ .nil)⟩
          exact ⟨zv, _, I.write (e := p) (t' := s.toks + (nestedKind X.prog X.w).draws k) (by rw [e1]; trivial) (.inl rfl) (fun b u hb hu => (sb.2 b hb).trans hu) he (new _), qz, w _ _ (q2 a1) _ _ (rz.ts f2.s) m2 f2⟩
        · rw [a2] at hn; cases hn
  · cases rd
    cases qd
    obtain ⟨vs, e1, e2⟩ := m.m _ _ h1
    have le := paired_len e2
    have ev := kD_V ry
    subst ev
    refine d_setd I e1 qy qz (by rw [← le]; exact hl) (fun v hv w' s' I' rv => ?_) (fun hn w' s' I' rv => ?_)
    · rcases dki_look e2 k with ⟨a1, a2⟩ | ⟨dd, v', a1, a2, a4⟩
      · rw [a2] at hv; cases hv
      · rw [a2] at hv
        cases hv
        exact ⟨_, H, I', rv, w _ _ (q1 _ a1) _ _ a4 m (.refl _ _)⟩
    · rcases dki_look e2 k with ⟨a1, a2⟩ | ⟨dd, v', a1, a2, a4⟩
      · rw [putK_none a2] at I'
        obtain ⟨m2, f2⟩ := m.putG (o := .dK (vs ++ [(k, zv)])) (d := .dki (addE kvs k z)) e1 (fun _ e => by cases e) (fun _ _ e => by cases e) h1 fun ts =>
          ⟨_, upd_same, paired_app (Paired.mapP e2 fun _ _ z => z.ts ts) (.cons ⟨rfl, rz.ts ts⟩ .nil)⟩
        exact ⟨zv, _, I', rv, w _ _ (q2 a1) _ _ (rz.ts f2.s) m2 f2⟩
      · rw [a2] at hn; cases hn
theorem DE.go {e : Expr} {t : DTE} {s0 : DSt} {M : DHp} {P : DK} (h : DE X B e t) (I : Inv X pins σ H s) (hs : SR X.K H σ s0) (hm : MB X.K B M H) (q : t s0 M P) :
    wpAny (model X.prog X.w) X.A (eval e X.env) (fun u s1 => ∃ d M1 v H1, Inv X pins σ H1 s1 ∧ RelV v u ∧ P d M1 ∧ DR X.K H1 v d ∧ MB X.K B M1 H1 ∧ Fr M H M1 H1 ∧ SR X.K H1 σ s0) X.xe s :=
  thn (h.run.run pins s σ H (fun v H1 => ∃ d M1, P d M1 ∧ DR X.K H1 v d ∧ MB X.K B M1 H1 ∧ Fr M H M1 H1 ∧ SR X.K H1 σ s0) I (liE_then hs hm q fun d M1 v H1 p r m1 f1 s1 => ⟨d, M1, p, r, m1, f1, s1⟩))
    fun u s1 ⟨v, H1, I1, r, d, M1, p, r2, m1, f1, sr⟩ => ⟨d, M1, v, H1, I1, r, p, r2, m1, f1, sr⟩
theorem de_setd0 (hu : X.A.units + 9 < cLine) (ho : DE X B o td) (he : DE X B e ty) (hf : DE X B f tx) (m : M2 X o "setdefault" apos e f cpos) : DE X B (.Call (.Attribute o "setdefault" apos) [e, f] [] cpos) (dSetd X.prog X.w td ty tx) := by
  refine ⟨⟨fun pins s σ H Q I ⟨s0, M, P, hs, hm, h, w⟩ => ?_⟩⟩
  refine wpAny_Call_method m.base m.few m.line PySem.F.plainAttrs_dict PySem.F.slot_dict_setdefault PySem.F.type_dict_setdefault (thn (ho.go I hs hm h) fun du s1 ⟨d, M1, dv, H1, I1, qd, ⟨⟨pp, ed, hd⟩, q⟩, rd, m1, f1, sr1⟩ => ?_)
  subst ed
  cases rd
  cases qd
  obtain ⟨t1, t2⟩ := dic_type I1 m1 hd
  refine ⟨t1, t2, ?_⟩
  rw [m.trees]
  refine Calls.callWith_builtin rfl (Calls.evalArgs_plain (Calls.spliced_cons (thn (he.go I1 sr1 m1 q) fun yu s2 ⟨y, M2, yv, H2, I2, qy, q2, ry, m2, f2, sr2⟩ =>
    Calls.spliced_cons (thn (hf.go I2 sr2 m2 q2) fun zu s3 ⟨z, M3, zv, H3, I3, qz, q3, rz, m3, f3, sr3⟩ => Calls.spliced_nil ?_))))
  exact setd_run hu I3 m3 (.ref pp) (ry.ts f3.s) rz rfl qy qz q3 (w.go ((f1.trans f2).trans f3))
theorem de_setd {k : Nat} (hr : RoomG k X.A) (ho : DE X B o td) (he : DE X B e ty) (hf : DE X B f tx) (m : M2 X o "setdefault" apos e f cpos) : DE X B (.Call (.Attribute o "setdefault" apos) [e, f] [] cpos) (dSetd X.prog X.w td ty tx) :=
  de_setd0 (by have := room65 hr; omega) ho he hf m
theorem cr_len2 : CallR X (.builtin "len") (liC X.K B (lenD2 X.prog X.w)) := fun pins s σ H xs us Q I r ⟨ds, M, P, rs, m, h, w⟩ => by
  obtain ⟨v, d, rfl, rfl, r1, h⟩ := vs1 rs h
  rcases h with h | ⟨p, rfl, ⟨kvs, h1, q⟩ | ⟨kvs, h1, q⟩⟩
  · exact cr_len pins s σ H _ us Q I r ⟨_, M, P, .one r1, m, h, w⟩
  · cases r1
    obtain ⟨u, rfl, ru⟩ := r.one
    cases ru
    obtain ⟨es, e1, e2⟩ := m.m _ _ h1
    obtain ⟨hd, hz, hs⟩ := dic_at I e1 e2
    have hm : s.heap.DictKeyed (nestedKind X.prog X.w) p (pairsH es) := ⟨es, hd, rfl⟩
    have le := paired_len e2
    refine PyProof.Rows.call_len_slot (n := (kvs.length : Nat)) hm.typeIs PySem.F.slot_dict_len (fun Q' hq => len_keyed hs hm ?_) (by omega) (by rw [sizeLine_eq] at hz; omega) ?_
    · rw [pairsH_length, ← le]
      exact hq
    · exact ⟨.int _, H, I.tok _, ⟨_, rfl⟩, w _ _ q _ _ (.int _) m (.refl _ _)⟩
  · cases r1
    obtain ⟨u, rfl, ru⟩ := r.one
    cases ru
    obtain ⟨vs, e1, e2⟩ := m.m _ _ h1
    have le := paired_len e2
    refine d_len I (.inl e1) fun t s' I' => ?_
    rw [← le]
    exact ⟨.int _, H, I', ⟨_, rfl⟩, w _ _ q _ _ (.int _) m (.refl _ _)⟩
theorem ir_D2 (hu : X.A.units + 9 < cLine) : IxR X (liR X.K B (ixD2 X.prog X.w)) := fun value slice pins s σ H x y v u Q I rx ry ⟨a, b, M, P, ra, rb, m, h, w⟩ hs => by
  rcases h with h | ⟨p, kvs, ds, k, r, rfl, h1, rfl, nk, hk, h2, q⟩
  · exact ir_D value slice pins s σ H x y v u Q I rx ry ⟨a, b, M, P, ra, rb, m, h, w⟩ hs
  · cases ra
    cases rx
    obtain ⟨es, e1, e2⟩ := m.m _ _ h1
    obtain ⟨hd, hz, hsm⟩ := dic_at I e1 e2
    cases rb with
    | tup t rs =>
      cases ry
      have hka : KeyAt X.K H _ k := ⟨ds, .tup t rs, nk, hk⟩
      rcases dic_look e2 k with ⟨a1, a2⟩ | ⟨dd, pp, v, a1, a2, a3, a4⟩
      · rw [a1] at h2; cases h2
      · rw [a1] at h2
        cases h2
        exact tail_any hd.typeIs slot_dict_getitem.lookup (wpAny_getItem_heap (knd := nestedKind X.prog X.w) (show X.A.units + 1 + 8 < cLine by omega) (hka.is I) hd a2 ⟨v, H, I.tok _, a3, w _ _ q _ _ a4 m (.refl _ _)⟩) hs
theorem de_ix2 {k : Nat} (hr : RoomG k X.A) {a b : Expr} {ta tb : DTE} (ha : DE X B a ta) (hb : DE X B b tb) (hs : PlainIx b := by exact fun _ _ => rfl) : DE X B (.Subscript a b pos) (dOp (ixD2 X.prog X.w) ta tb) :=
  ⟨peI (pe_ix (ir_D2 (by have := room65 hr; omega)) ha.run hb.run hs) fun σ H Q ⟨s, M, P, hs, hm, h, w⟩ => liE_then hs hm h fun x M1 v H1 p r m f s1 => liE_then s1 m p fun y M2 u H2 p2 r2 m2 f2 s2 => ⟨x, y, M2, P, r.ts f2.s, r2, m2, p2, w.go (f.trans f2)⟩⟩
/-! the same, the program and the world named -/
theorem de_dnewN {P : Program} {w : World} (hP : X.prog = P) (hw : X.w = w) : DE X B (.Dict [] [] pos) (dDNew P w) := by subst hP hw; exact de_dnew
theorem de_setdN {P : Program} {w : World} (hP : X.prog = P) (hw : X.w = w) {k : Nat} (hr : RoomG k X.A) (ho : DE X B o td) (he : DE X B e ty) (hf : DE X B f tx) (m : M2 X o "setdefault" apos e f cpos) : DE X B (.Call (.Attribute o "setdefault" apos) [e, f] [] cpos) (dSetd P w td ty tx) := by
  subst hP hw; exact de_setd hr ho he hf m
theorem cr_len2N {P : Program} {w : World} (hP : X.prog = P) (hw : X.w = w) : CallR X (.builtin "len") (liC X.K B (lenD2 P w)) := by subst hP hw; exact cr_len2
theorem de_ix2N {P : Program} {w : World} (hP : X.prog = P) (hw : X.w = w) {k : Nat} (hr : RoomG k X.A) {a b : Expr} {ta tb : DTE} (ha : DE X B a ta) (hb : DE X B b tb) (hs : PlainIx b := by exact fun _ _ => rfl) : DE X B (.Subscript a b pos) (dOp (ixD2 P w) ta tb) := by
  subst hP hw; exact de_ix2 hr ha hb hs
end
end DL
/-! sorted(l) for a list of tuples of ints of any lengths -/
namespace K24
open PySem PySem.Spec PyProof.Rows L2
/-- the value is a tuple of these ints -/
def IsTI (h : Heap) (v : Value) (ns : List Int) : Prop := ∃ t its, v = .ref t ∧ IsTup h t its ∧ IntsAre its.toList ns
section
variable {prog : Program} {w : World} {A : Around} {E : Value → Shared → Prop} {s : Shared}
theorem lex_go {fin : Bool} {Q : Bool → Shared → Prop} : ∀ (xs ys : List Int) (i : Nat) (vs ws : List Value), IntsAre vs xs → IntsAre ws ys → fin = decide (xs.length < ys.length) → Q (HT.lexLt xs ys) s →
    PySem.W.KatLex prog w A true fin Q (vs.zip ws) i s
  | [], [], i, _, _, .nil, .nil, hf, h => by
    subst hf
    exact PySem.W.kat_nil h
  | [], y :: ys, i, _, _, .nil, .cons _ _ _, hf, h => by
    subst hf
    refine PySem.W.kat_nil (?_ : Q _ s)
    have e : decide (([] : List Int).length < (y :: ys).length) = true := decide_eq_true (Nat.succ_pos _)
    rw [e]
    exact h
  | x :: xs, [], i, _, _, .cons _ _ _, .nil, hf, h => by
    subst hf
    refine PySem.W.kat_nil (?_ : Q _ s)
    have e : decide ((x :: xs).length < ([] : List Int).length) = false := decide_eq_false (Nat.not_lt_zero _)
    rw [e]
    exact h
  | x :: xs, y :: ys, i, _, _, .cons _ t ha, .cons _ u hb, hf, h => by
    rw [HT.lexLt_cons] at h
    refine PySem.W.kat_cons (SeqAt.EqAt.int_int x t y u prog w _ _ ?_)
    refine PySem.W.kat_go (fun e => ?_) (fun e => ?_)
    · have q : x = y := by simpa using e
      rw [if_pos q] at h
      exact PySem.W.kat_yes (lex_go xs ys (i + 1) _ _ ha hb (by rw [hf]; simp) h)
    · have q : ¬ x = y := by simpa using e
      rw [if_neg q] at h
      exact PySem.W.kat_no (oneLt_any_int h)
theorem lt_tups {v u : Value} {ns ms : List Int} {Q : Bool → Shared → Prop} (hv : IsTI s.heap v ns) (hu : IsTI s.heap u ms) (h : Q (HT.lexLt ns ms) s) : wpAny (model prog w) A (keyLt' (tuples' true) v u) Q E s := by
  obtain ⟨a, xs, rfl, ⟨o, ho, hc, n, hd⟩, ia⟩ := hv
  obtain ⟨b, ys, rfl, ⟨o', ho', hc', n', hd'⟩, ib⟩ := hu
  refine PySem.W.kat_lt ho hd ho' hd' (lex_go ns ms 0 _ _ ia ib ?_ h)
  have l1 := ia.length
  have l2 := ib.length
  rw [Array.length_toList] at l1 l2
  rw [l1, l2]
theorem lt_one {v u : Value} {ns ms : List Int} {Q : Bool → Shared → Prop} (hr : A.units < cLine) (hv : IsTI s.heap v ns) (hu : IsTI s.heap u ms) (h : Q (HT.lexLt ns ms) s) : wpAny (model prog w) A (keyLt' oneType' v u) Q E s := by
  obtain ⟨a, xs, rfl, ⟨⟨c, dd, dt, sl⟩, ho, hc, n, hd⟩, ia⟩ := hv
  obtain ⟨b, ys, rfl, ⟨⟨c', dd', dt', sl'⟩, ho', hc', n', hd'⟩, ib⟩ := hu
  simp only at hc hd hc' hd'
  subst hc hd hc' hd'
  rw [keyLt'_oneType, oneLt'_eq]
  simp only [if_true]
  refine wpAny_bind (wpAny_cRoomFor hr ?_)
  refine wpAny_bind (wpAny_callSpecialIfBound?_slot (T := "tuple") ⟨_, ho, rfl⟩ F.slot_tuple_lt (call_meets F.slot_tuple_lt ⟨_, ho, rfl⟩ F.entry_tuple_lt (F.args_tuple_lt_2 _ _)
    (HT.tuple_lt_ints a b xs ys n n' dd dd' sl sl' ns ms ia ib) ⟨ho, ho', ?_⟩))
  exact wpAny_truthy_bool h
theorem paired_left {α β : Type} {F : α → β → Prop} : ∀ {l : List α} {m : List β}, Paired F l m → ∀ a ∈ l, ∃ b, F a b
  | _, _, .nil, a, h => absurd h (by simp)
  | _, _, .cons (b := b) h t, a, ha => by
    rcases List.mem_cons.mp ha with e | e
    · exact ⟨b, e ▸ h⟩
    · exact paired_left t a e
/-- the first items of tuples -/
theorem firsts {M : Model} : ∀ (vs : List Value) (nss : List (List Int)) {Q : List (Option Value) → Shared → Prop}, Paired (IsTI s.heap) vs nss →
    (∀ fs : List (Option Value), fs.length = nss.length → (∀ i : Nat, (fs[i]?.bind id).isSome = (nss[i]?.bind List.head?).isSome) → Q fs s) → wpAny M A (vs.mapM firstOfTuple') Q E s
  | [], [], Q, .nil, h => by
    rw [List.mapM_nil]
    exact wpAny_pure (h [] rfl fun i => rfl)
  | v :: vs, ns :: nss, Q, .cons hv t, h => by
    obtain ⟨a, xs, rfl, ⟨o, ho, hc, n, hd⟩, ia⟩ := hv
    rw [List.mapM_cons]
    refine wpAny_bind ?_
    rw [PySem.W.kas_first_eq]
    refine wpAny_bind (PySem.W.Looks.here (show PySem.W.Looks M s.heap (typeOf (.ref a)) o.cls from (PySem.W.Looks.ld ho).andThen .now) ?_)
    rw [hc, if_neg (by first | decide | simp)]
    refine wpAny_bind (listItems_at ho hd (wpAny_pure ?_))
    refine wpAny_bind (firsts vs nss t fun fs hl hh => wpAny_pure (h _ (by simp [hl]) fun i => ?_))
    match i with
    | 0 =>
      have : xs[0]?.isSome = ns.head?.isSome := by
        rw [← Array.getElem?_toList]
        generalize xs.toList = l at ia
        cases ia with
        | nil => rfl
        | cons k u r => rfl
      simpa using this
    | i + 1 => simpa using hh i
theorem kind_one {M : Model} {v : Value} {vs : List Value} {nss : List (List Int)} {Q : SortKind → Shared → Prop} (hp : Paired (IsTI s.heap) (v :: vs) ([] :: nss)) (h : Q oneType' s) : wpAny M A (keyKind' (v :: vs).toArray) Q E s := by
  rw [keyKind'_eq, List.mapM_toArray, map_eq_pure_bind]
  refine wpAny_bind (wpAny_bind (firsts _ _ hp fun fs hl hh => wpAny_pure ?_))
  have h0 := hh 0
  match fs, hl with
  | f :: fs, _ =>
    have e0 : f = none := by
      cases f with
      | none => rfl
      | some y => simp at h0
    subst e0
    rw [if_neg (by simp), if_neg (by simp)]
    rw [oneTypeOnly'_eq, List.mapM_toArray, map_eq_pure_bind]
    refine wpAny_bind (wpAny_bind (wpAny_bind (PySem.W.kas_mapM (r := Value.type "tuple") _ (fun u hu Q' hq => ?_) (wpAny_pure ?_))))
    · obtain ⟨ns, t, its, rfl, ⟨o, ho, hc, _⟩, _⟩ := paired_left hp u hu
      have q := PySem.W.Looks.here (M := M) (A := A) (E := E) (Q := Q') (show PySem.W.Looks M s.heap (typeOf (.ref t)) o.cls from (PySem.W.Looks.ld ho).andThen .now)
      rw [hc] at q
      exact q hq
    · have ha : ((List.map (fun _ => Value.type "tuple") (v :: vs)).toArray.all fun x => x == Value.type "tuple") = true := by
        simp only [List.all_toArray, List.all_map, List.all_eq_true]
        intro _ _
        rfl
      have hz : (List.map (fun _ => Value.type "tuple") (v :: vs)).toArray[0]? = some (Value.type "tuple") := by simp
      rw [hz]
      simp only [ha, if_true]
      exact wpAny_pure (wpAny_pure h)
/-- two tuples, or a list whose first one is empty, or all with items -/
theorem ti_keeps {h h' : Heap} {v : Value} {ns : List Int} (hv : IsTI h v ns) (k : ∀ b o, h.get? b = some o → o.cls = .type "tuple" → h'.get? b = some o) : IsTI h' v ns := by
  obtain ⟨t, its, e, ⟨o, ho, hc, d⟩, i⟩ := hv
  exact ⟨t, its, e, ⟨o, k t o ho hc, hc, d⟩, i⟩
theorem paired_map {α β : Type} {F : α → β → Prop} (f : α → β) : ∀ {l : List α}, (∀ a ∈ l, F a (f a)) → Paired F l (l.map f)
  | [], _ => .nil
  | a :: l, h => .cons (h a List.mem_cons_self) (paired_map f fun b hb => h b (List.mem_cons_of_mem _ hb))
theorem katTups_of {h : Heap} : ∀ {vs : List Value} {k : Value → List Int}, (∀ v ∈ vs, IsTI h v (k v)) → (∀ v ∈ vs, k v ≠ []) → ∃ fs, PySem.W.KatTups h vs fs ∧ fs.length = vs.length ∧ ∀ f ∈ fs, ∃ n t, f = Value.int n t
  | [], _, _, _ => ⟨[], PySem.W.KatTups.nil, rfl, fun f hf => absurd hf (by simp)⟩
  | v :: vs, k, hv, hn => by
    obtain ⟨fs, h1, h2, h3⟩ := katTups_of (vs := vs) (k := k) (fun u hu => hv u (List.mem_cons_of_mem _ hu)) fun u hu => hn u (List.mem_cons_of_mem _ hu)
    have n0 := hn v List.mem_cons_self
    obtain ⟨t, its, e, ⟨o, ho, hc, n, hd⟩, i⟩ := hv v List.mem_cons_self
    subst e
    have : ∃ f, its[0]? = some f ∧ ∃ n t, f = Value.int n t := by
      rw [← Array.getElem?_toList]
      generalize its.toList = l at i
      generalize k (Value.ref t) = ns at i n0
      cases i with
      | nil => exact absurd rfl n0
      | cons m u r => exact ⟨_, rfl, m, u, rfl⟩
    obtain ⟨f, hf, hi⟩ := this
    refine ⟨f :: fs, PySem.W.KatTups.cons ho hc hd hf h1, by simp [h2], fun g hg => ?_⟩
    rcases List.mem_cons.mp hg with rfl | hg
    · exact hi
    · exact h3 g hg
theorem ti_sortable {a : Addr} {vs : List Value} {k : Value → List Int} (h2 : 2 ≤ vs.length) (hr : A.units < cLine) (hv : ∀ v ∈ vs, IsTI s.heap v (k v)) (hk : (∀ v ∈ vs, k v ≠ []) ∨ ∃ v r, vs = v :: r ∧ k v = [])
    (ha : ∀ o, s.heap.get? a = some o → o.cls ≠ .type "tuple") : SrtO.SortableO prog w A s a vs fun v u => HT.lexLt (k v) (k u) := by
  intro h' keep
  have hv' : ∀ v ∈ vs, IsTI h' v (k v) := fun v hm => ti_keeps (hv v hm) fun b o e c => keep b o (fun z => by subst z; exact ha o e c) e
  rcases hk with hk | ⟨v, r, e, hk⟩
  · obtain ⟨fs, h3, h4, h5⟩ := katTups_of hv' hk
    refine ⟨tuples' true, fun Q E hq => ?_, fun p q hp hq => lt_tups (s := { s with heap := h' }) (Q := fun r s' => s' = { s with heap := h' } ∧ r = HT.lexLt (k p.1) (k q.1)) (hv' _ hp) (hv' _ hq) ⟨rfl, rfl⟩⟩
    refine PySem.W.kat_kind (T := .type "int") h3 (by omega) (fun f hm => ?_) (by rfl) ?_
    · obtain ⟨n, t, rfl⟩ := h5 f hm
      exact PySem.W.Looks.now
    · have z : (Value.type "int" != Value.type "tuple") = true := by first | decide +kernel | rfl | decide
      rw [z]
      exact hq
  · subst e
    refine ⟨oneType', fun Q E hq => ?_, fun p q hp hq => lt_one (s := { s with heap := h' }) (Q := fun r s' => s' = { s with heap := h' } ∧ r = HT.lexLt (k p.1) (k q.1)) hr (hv' _ hp) (hv' _ hq) ⟨rfl, rfl⟩⟩
    have q := paired_map k hv'
    rw [List.map_cons, hk] at q
    exact kind_one (s := { s with heap := h' }) q hq
end
/-- sorted(xs), xs a list of tuples of ints (k says which), all with items or the first without -/
def rSortTI (K : PySem.W.Frag) : List V → Hp → VK → Prop := fun vs H Q => ∃ (a : Addr) (xs : List V) (k : V → List Int), vs = [V.ref a] ∧ SqL K H a xs ∧ (∀ x ∈ xs, ∃ t, x = V.ref t ∧ SqT K H t ((k x).map V.int)) ∧
  ((∀ x ∈ xs, k x ≠ []) ∨ ∃ x r, xs = x :: r ∧ k x = []) ∧ ∀ ys p, ys.Perm xs → ys.Pairwise (fun x y => HT.lexLt (k y) (k x) = false) → H p = none → Q (.ref p) (upd H p (.lst ys))
theorem cr_sortTI {X : Cx} (hr : X.A.in1.in1.units < cLine) : CallR X (.builtin "sorted") (rSortTI X.K) := by
  intro pins s σ H vs us Q I r h
  obtain ⟨a, xs, k, rfl, hs, hx, hn, q⟩ := h
  obtain ⟨its, rv, hl, hz⟩ := I.list hs
  obtain ⟨u, rfl, ru⟩ := vals1 r
  obtain rfl : u = Value.ref a := ru
  obtain ⟨e1, e2⟩ := refs_back rv fun x m => by
    obtain ⟨t, e, _⟩ := hx x m
    exact ⟨t, e⟩
  have hti : ∀ v ∈ its, IsTI s.heap v (k (backV v)) := fun v hv => by
    obtain ⟨t, rfl⟩ := e2 v hv
    have hm : V.ref t ∈ xs := by
      rw [e1]
      exact List.mem_map.mpr ⟨_, hv, rfl⟩
    obtain ⟨t', e, ht⟩ := hx _ hm
    cases e
    obtain ⟨ws, r2, p, _⟩ := I.tuple ht
    exact ⟨t, ws.toArray, rfl, p, by have z := L2.intsAre_of r2; show IntsAre ws.toArray.toList (k (V.ref t)); simpa using z⟩
  have hne : (∀ v ∈ its, k (backV v) ≠ []) ∨ ∃ v r, its = v :: r ∧ k (backV v) = [] := by
    rcases hn with hn | ⟨x, r, e, hk⟩
    · exact .inl fun v hv => hn _ (by rw [e1]; exact List.mem_map.mpr ⟨_, hv, rfl⟩)
    · cases its with
      | nil => rw [e1] at e; simp at e
      | cons v r2 =>
        rw [e1, List.map_cons] at e
        have e3 := (List.cons.inj e).1
        exact .inr ⟨v, r2, rfl, by rw [e3]; exact hk⟩
  refine SrtO.sorted_ord (NtL.swo_lexL fun v => k (backV v)) hl.isList (by rw [← rv.length]; exact hz) (fun h2 h₁ a' ha kk => ?_) fun out hso hst => ?_
  · refine ti_sortable (s := { s with heap := h₁ }) h2 hr (fun v hv => ti_keeps (hti v hv) fun b o e _ => (kk b o e).2) hne fun o e => ?_
    have e' : some o = some (seqObj "list" its.toArray 0) := e.symm.trans ha
    cases e'
    intro c
    exact absurd (Value.type.inj c) (by decide)
  · have h3 : ∀ u ∈ out, ∃ a, u = Value.ref a := fun u hu => e2 u (hst.perm.mem_iff.mp hu)
    obtain ⟨n, hn'⟩ := PyProof.Rows.sortedAll_at s.heap its out.toArray
    have hb : (out.map backV).Perm xs := by
      rw [e1]
      exact hst.perm.map _
    refine ⟨.ref _, upd H (s.heap.objs.size + 1) (.lst (out.map backV)), I.laid (t' := s.toks) (fun _ _ e => PyProof.Rows.sortedAll_old e) (Nat.le_succ _) ⟨?_, out, n, vals_back h3, hn'⟩, rfl, q _ _ hb ?_ (I.hok.fresh (Nat.le_succ _))⟩
    · rw [hb.length_eq]
      exact hz
    · rw [List.pairwise_map]
      exact hso
end K24
set_option linter.all false
/-! sorted, of tuples of ints -/
namespace DL
open PySem PySem.Spec PyProof.Rows L2
abbrev tpI (ns : List Int) : D := .tup (ns.map D.int)
def srtTD : DFn := one fun d M Q => ∃ (p : Addr) (nss : List (List Int)), d = .ref p ∧ LstAt M p (nss.map tpI) ∧ ((∀ ns ∈ nss, ns ≠ []) ∨ ∃ r, nss = [] :: r) ∧
  ∀ (nss' : List (List Int)) (q : Addr), nss'.Perm nss → nss'.Pairwise (fun x y => HT.lexLt y x = false) → M q = none → Q (.ref q) (upM M q (.lst (nss'.map tpI)))
section
variable {X : Cx} {B : Bs}
open Classical in
noncomputable def keyOf (K : PySem.W.Frag) (H : Hp) (x : V) : List Int := if h : ∃ ns : List Int, ∃ t : Addr, x = V.ref t ∧ SqT K H t (ns.map V.int) then h.choose else []
theorem ints_V {ns ms : List Int} (h : ns.map V.int = ms.map V.int) : ns = ms := (List.map_inj_right fun a b e => V.int.inj e).mp h
theorem keyOf_at {pins : List (Addr × Obj)} {σ : VS} {H : Hp} {s : Shared} (I : Inv X pins σ H s) {t : Addr} {ns : List Int} (h : SqT X.K H t (ns.map V.int)) : keyOf X.K H (.ref t) = ns := by
  have e : ∃ ns : List Int, ∃ u : Addr, V.ref t = V.ref u ∧ SqT X.K H u (ns.map V.int) := ⟨ns, t, rfl, h⟩
  unfold keyOf
  rw [dif_pos e]
  obtain ⟨u, e1, e2⟩ := e.choose_spec
  cases e1
  exact ints_V (I.tuple_inj e2 h)
theorem keys_at {pins : List (Addr × Obj)} {σ : VS} {H : Hp} {s : Shared} (I : Inv X pins σ H s) : ∀ {vs : List V} {nss : List (List Int)}, DRs X.K H vs (nss.map tpI) → vs.map (keyOf X.K H) = nss ∧ ∀ x ∈ vs, ∃ t, x = V.ref t ∧ NdT H t ((keyOf X.K H x).map V.int)
  | [], [], .nil => ⟨rfl, fun x h => nomatch h⟩
  | v :: vs, ns :: nss, .cons h t => by
    obtain ⟨a, b⟩ := keys_at I t
    cases h with
    | tup q r =>
      have e := r.ints
      subst e
      have k := keyOf_at I q.sq
      refine ⟨by rw [List.map_cons, a, k], fun x hx => ?_⟩
      rcases List.mem_cons.mp hx with rfl | hx
      · exact ⟨_, rfl, by rw [k]; exact q⟩
      · exact b x hx
theorem DRs.keys {K : PySem.W.Frag} {H : Hp} : ∀ {ys : List V}, (∀ x ∈ ys, ∃ t, x = V.ref t ∧ NdT H t ((keyOf K H x).map V.int)) → DRs K H ys ((ys.map (keyOf K H)).map tpI)
  | [], _ => .nil
  | y :: ys, h => by
    obtain ⟨t, e, q⟩ := h y List.mem_cons_self
    refine .cons ?_ (DRs.keys fun x hx => h x (List.mem_cons_of_mem _ hx))
    rw [e] at q ⊢
    exact .tup q (DRs.of_ints _)
theorem cr_srtT0 (hu : X.A.in1.in1.units < cLine) : CallR X (.builtin "sorted") (liC X.K B srtTD) := fun pins s σ H xs us Q I r ⟨ds, M, P, rs, m, h, w⟩ => by
  obtain ⟨v, d, rfl, rfl, r1, p, nss, rfl, h0, hn, h⟩ := vs1 rs h
  cases r1
  obtain ⟨vs, t, rs⟩ := h0.sq m
  obtain ⟨a, b⟩ := keys_at I rs
  refine K24.cr_sortTI hu pins s σ H _ us Q I r ⟨_, vs, keyOf X.K H, rfl, t, fun x hx => let ⟨u, e, q⟩ := b x hx; ⟨u, e, q.sq⟩, ?_, fun ys q pm so hq => ?_⟩
  · rcases hn with hn | ⟨r, e⟩
    · exact .inl fun x hx => hn _ (by rw [← a]; exact List.mem_map.mpr ⟨x, hx, rfl⟩)
    · cases vs with
      | nil => rw [e] at a; cases a
      | cons x l => rw [e] at a; exact .inr ⟨x, l, rfl, (List.cons.inj a).1⟩
  · have d := DRs.keys (K := X.K) (H := H) (ys := ys) fun x hx => b x (pm.mem_iff.mp hx)
    obtain ⟨g2, g3⟩ := m.lnew hq d
    exact w _ _ (h _ q (by rw [← a]; exact pm.map _) (by rw [List.pairwise_map]; exact so) (m.free hq)) _ _ (.ref q) g2 g3
theorem cr_srtT {k : Nat} (hr : RoomG k X.A) : CallR X (.builtin "sorted") (liC X.K B srtTD) := cr_srtT0 (by have := room65 hr; show X.A.units + 1 + 1 < cLine; omega)
/-- max of a tuple of ints -/
def maxTD : DFn := one fun d M Q => ∃ ns : List Int, d = .tup (ns.map D.int) ∧ 0 < ns.length ∧ ∀ m, m ∈ ns → (∀ y, y ∈ ns → y ≤ m) → Q (.int m) M
theorem pds_ints {M : DHp} : ∀ a : List Int, Pds M (a.map D.int) (a.map PyData.int)
  | [] => .nil
  | x :: a => .cons (.int x) (pds_ints a)
theorem maxOf_is : ∀ (xs : List Int) (x : Int), PySem.W.maxOf x xs ∈ x :: xs ∧ ∀ y ∈ x :: xs, y ≤ PySem.W.maxOf x xs
  | [], x => ⟨List.mem_singleton.mpr rfl, fun y hy => by rw [List.mem_singleton.mp hy]; exact Int.le_refl _⟩
  | z :: xs, x => by
    have e : PySem.W.maxOf x (z :: xs) = PySem.W.maxOf (if PySem.W.DatumOrd.lt x z = true then z else x) xs := rfl
    obtain ⟨a, b⟩ := maxOf_is xs (if PySem.W.DatumOrd.lt x z = true then z else x)
    rw [e]
    have hl : PySem.W.DatumOrd.lt x z = decide (x < z) := rfl
    rw [hl] at a b ⊢
    by_cases q : x < z
    · rw [if_pos (decide_eq_true q)] at a b ⊢
      refine ⟨List.mem_cons_of_mem _ a, fun y hy => ?_⟩
      rcases List.mem_cons.mp hy with rfl | hy
      · have := b z List.mem_cons_self
        omega
      · exact b y hy
    · rw [if_neg (by simpa using q)] at a b ⊢
      refine ⟨?_, fun y hy => ?_⟩
      · rcases List.mem_cons.mp a with h | h
        · rw [h]; exact List.mem_cons_self
        · exact List.mem_cons_of_mem _ (List.mem_cons_of_mem _ h)
      · rcases List.mem_cons.mp hy with rfl | hy
        · exact b _ List.mem_cons_self
        · rcases List.mem_cons.mp hy with rfl | hy
          · have := b x List.mem_cons_self
            omega
          · exact b y (List.mem_cons_of_mem _ hy)
theorem cr_maxT (hc : X.calm = true) {k : Nat} (hr : RoomG k X.A) : CallR X (.builtin "max") (liC X.K B maxTD) := fun pins s σ H xs us Q I r ⟨ds, M, P, rs, m, h, w⟩ => by
  obtain ⟨v, d, rfl, rfl, r1, ns, rfl, h1, h⟩ := vs1 rs h
  cases r1 with
  | tup t rs =>
    obtain ⟨its, rv, p, _⟩ := I.tuple t.sq
    obtain ⟨u, rfl, ru⟩ := r.one
    cases ru
    obtain ⟨as, ra⟩ := Dp.readsAll I _ _ _ ((pds_ints ns).dp m rs) rv
    cases ns with
    | nil => exact absurd h1 (Nat.lt_irrefl _)
    | cons x xs =>
      refine PySem.W.max_tuple_datum (x := x) (xs := xs) (I.ok.hd hc) p ⟨as, ra⟩ (by have := room65 hr; show X.A.units + 1 + 0 < cLine; omega) fun i v h' tk _ hv hk => ?_
      obtain ⟨bs, rb⟩ := hv
      obtain ⟨a, b⟩ := maxOf_is xs x
      generalize PySem.W.maxOf x xs = z at rb a b
      cases rb
      exact ⟨.int z, H, I.kept hk, ⟨_, rfl⟩, w _ _ (h z a b) _ _ (.int _) m (.refl _ _)⟩
end
end DL
set_option linter.all false
/-! tuples of ints, which comes first -/
namespace DL
open PySem PySem.Spec PyProof.Rows L2
def ltTD : DCm := fun a b M Q => ∃ ns ms : List Int, a = .tup (ns.map D.int) ∧ b = .tup (ms.map D.int) ∧ Q (HT.lexLt ns ms) M
section
variable {X : Cx} {B : Bs}
theorem or_ltT0 (hu : X.A.units < cLine) : OpR X (compareOp .Lt) (liQ X.K B ltTD) := fun pins s σ H x y v u Q I rx ry ⟨a, b, M, P, ra, rb, m, ⟨ns, ms, e1, e2, q⟩, w⟩ => by
  subst e1 e2
  cases ra with
  | tup ta ra =>
    cases rb with
    | tup tb rb =>
      have h1 := ra.ints
      have h2 := rb.ints
      subst h1 h2
      exact op_ltT hu pins s σ H _ _ v u Q I rx ry ⟨_, _, ns, ms, rfl, rfl, ta.sq, tb.sq, w _ _ q _ _ (.bl _) m (.refl _ _)⟩
theorem or_ltT {k : Nat} (hr : RoomG k X.A) : OpR X (compareOp .Lt) (liQ X.K B ltTD) := or_ltT0 (by have := room65 hr; omega)
/-- t.index(k), t a tuple of ints, k in it -/
def dTix (td te : DTE) : DTE := fun s M Q => td s M fun d M1 => (∃ ds, d = .tup ds) ∧ te s M1 fun x M2 => ∃ (ns : List Int) (k : Int), d = .tup (ns.map D.int) ∧ x = .int k ∧ k ∈ ns ∧ Q (.int (ns.idxOf k : Nat)) M2
variable {o e : Expr} {td te : DTE} {apos cpos : Pos}
theorem de_tix (ho : DE X B o td) (he : DE X B e te) (m : M1 X o "index" apos e cpos) : DE X B (.Call (.Attribute o "index" apos) [e] [] cpos) (dTix td te) := by
  refine ⟨⟨fun pins s σ H Q I ⟨s0, M, P, hs, hm, h, w⟩ => ?_⟩⟩
  refine wpAny_Call_method m.base m.few m.line PySem.F.plainAttrs_tuple PySem.F.slot_tuple_index PySem.F.type_tuple_index (thn (ho.go I hs hm h) fun du s1 ⟨d, M1, dv, H1, I1, qd, ⟨⟨ds, ed⟩, q⟩, rd, m1, f1, sr1⟩ => ?_)
  subst ed
  cases rd with
  | tup t rs =>
    cases qd
    obtain ⟨its, rv, p, _⟩ := I1.tuple t.sq
    refine ⟨p.typeIs, fun b eb => ?_, ?_⟩
    · cases eb
      obtain ⟨ob, h1, h2⟩ := t
      exact ⟨ob, (I1.hok _ _ h1).1, h2⟩
    · rw [m.trees]
      refine Calls.callWith_builtin rfl (Calls.evalArgs_plain (Calls.spliced_cons (thn (he.go I1 sr1 m1 q) fun xu s2 ⟨x, M2, xv, H2, I2, qx, ⟨ns, k, e1, e2, hk, q2⟩, rx, m2, f2, sr2⟩ => Calls.spliced_nil ?_)))
      subst e2
      cases e1
      cases rx
      obtain ⟨tk, rfl⟩ := qx
      have hn := rs.ints
      subst hn
      obtain ⟨js, rj, pj, _⟩ := I2.tuple (t.ts f2.s).sq
      exact PySem.SeqAt.tuple_index_ints pj (L2.intsAre_of rj) hk ⟨.int _, H2, I2.tok _, ⟨_, rfl⟩, w _ _ q2 _ _ (.int _) m2 (f1.trans f2)⟩
end
end DL
set_option linter.all false
namespace K83
open PySem PySem.Spec PyProof.Rows L2 DL
def top (i : Nat) : Stmt := PySem.Challenge.pw_oncetested_k83_whole_noes_in_which_all_p.main.body.getD i (.Pass ⟨0, 0, 0, 0⟩)
local macro_rules | `(tactic| walk_at "w") => `(tactic| conv => whnf)
def isI : D → Bool
  | .int _ => true
  | _ => false
/-- a value of a known kind -/
def Kn (K : PySem.W.Frag) (M : DHp) (d : D) : Prop := ∃ k, kindD M d = some k ∧ KdOk K k
/-- a value that may be a list or a tuple -/
def Vw (K : PySem.W.Frag) (M : DHp) (d : D) : Option (List D) → Prop
  | none => ∃ k, kindD M d = some k ∧ KdOk K k ∧ (kindIs k "list" || kindIs k "tuple") = false
  | some xs => SqD M d xs ∧ ∀ x ∈ xs, Kn K M x
theorem sqKind {M : DHp} {d : D} {xs : List D} (h : SqD M d xs) : kindD M d = some .tup ∨ kindD M d = some .lst := by
  rcases h with rfl | ⟨p, rfl, h⟩
  · exact .inl rfl
  · right
    show kindO (M p) = _
    rcases h with h | h <;> rw [h] <;> rfl
theorem Vw.kind {K : PySem.W.Frag} {M : DHp} {d : D} {o : Option (List D)} (h : Vw K M d o) : ∃ k, kindD M d = some k ∧ KdOk K k ∧ (kindIs k "list" || kindIs k "tuple") = o.isSome := by
  cases o with
  | none => exact h
  | some xs => rcases sqKind h.1 with e | e <;> exact ⟨_, e, trivial, rfl⟩
theorem Vw.kn {K : PySem.W.Frag} {M : DHp} {d : D} {o : Option (List D)} (h : Vw K M d o) : Kn K M d := let ⟨k, a, b, _⟩ := h.kind; ⟨k, a, b⟩
/-- the first of n places where p is true -/
def firstN (p : Nat → Bool) : Nat → Option Nat
  | 0 => none
  | n + 1 => match firstN p n with
    | some i => some i
    | none => if p n then some n else none
theorem firstN_hit {p : Nat → Bool} {i : Nat} (h : firstN p i = none) (hp : p i = true) : ∀ {n : Nat}, i < n → firstN p n = some i
  | n + 1, hn => by
    rcases Nat.lt_succ_iff_lt_or_eq.mp hn with q | q
    · simp [firstN, firstN_hit h hp q]
    · subst q
      simp [firstN, h, hp]
theorem firstN_step {p : Nat → Bool} {i : Nat} (h : firstN p i = none) (hp : p i = false) : firstN p (i + 1) = none := by simp [firstN, h, hp]
theorem firstN_none {p : Nat → Bool} : ∀ {n : Nat}, firstN p n = none → ∀ i, i < n → p i = false
  | n + 1, h, i, hi => by
    unfold firstN at h
    cases e : firstN p n with
    | some j => rw [e] at h; cases h
    | none =>
      rw [e] at h
      rcases Nat.lt_succ_iff_lt_or_eq.mp hi with q | q
      · exact firstN_none e i q
      · subst q
        cases q : p i with
        | false => rfl
        | true => rw [q] at h; cases h
def plD : Option Nat → D
  | none => .non
  | some i => .int (i : Nat)
section
variable {P₀ : Program} {w : World} {K : PySem.W.Frag} {mg : Str → Option Value} {base : Heap}
abbrev s_is_integer : Stmt := top 9
abbrev N_is_integer : List Str := ["value"]
abbrev P_is_integer : List Str := ["value"]
theorem sc_is_integer : FnScope N_is_integer P_is_integer (defScope s_is_integer) := ⟨rfl, rfl, rfl, by decide +kernel, rfl, by decide +kernel, by decide +kernel⟩
def sp_is_integer (K : PySem.W.Frag) : DSp := fun ds M Q _ => ∃ d, ds = [d] ∧ Kn K M d ∧ Q (.bl (isI d)) M
theorem ok_is_integer {f : Addr} {fd : FuncData} (Dd : Df K mg "is_integer" s_is_integer f fd P_is_integer) (Z : Zs mg) : Cal P₀ w K mg base "is_integer" 1 (sp_is_integer K) := by
  refine Dd.cal sc_is_integer (fun ds M P PE h => ?_) (fun cdv A outer s H E ds M P PE hr tk h => ⟨_, (dss_one (ds_ret (de_and (de_isi (T := "int") Z.isi Z.int (de_var 0)) (de_one (de_not (de_isi (T := "bool") Z.isi Z.bool (de_var 0))))))), ?_⟩)
  · obtain ⟨d, rfl, _⟩ := h
    rfl
  · obtain ⟨d, rfl, ⟨k, hk, ok⟩, q⟩ := h
    walk_at "w"
    refine ⟨k, hk, ok, _, rfl, ?_⟩
    cases d with
    | int i => cases hk; exact ⟨_, rfl, ok, _, rfl, Lk.of q⟩
    | bl i => cases hk; exact ⟨_, rfl, ok, _, rfl, Lk.of q⟩
    | str i => cases hk; exact Lk.of q
    | non => cases hk; exact Lk.of q
    | ty i => cases hk
    | tup i => cases hk; exact Lk.of q
    | ref a =>
      have hk : kindO (M a) = some k := hk
      cases e : M a with
      | none => rw [e] at hk; cases hk
      | some o =>
        rw [e] at hk
        cases o <;> cases hk <;> exact Lk.of q
abbrev s_is_below : Stmt := top 11
abbrev N_is_below : List Str := ["value", "many"]
abbrev P_is_below : List Str := ["value", "many"]
theorem sc_is_below : FnScope N_is_below P_is_below (defScope s_is_below) := ⟨rfl, rfl, rfl, by decide +kernel, rfl, by decide +kernel, by decide +kernel⟩
def isB (n : Int) : D → Bool
  | .int i => decide (0 ≤ i) && decide (i < n)
  | _ => false
def sp_is_below (K : PySem.W.Frag) : DSp := fun ds M Q _ => ∃ d n, ds = [d, .int n] ∧ Kn K M d ∧ Q (.bl (isB n d)) M
theorem ok_is_below {f : Addr} {fd : FuncData} (Dd : Df K mg "is_below" s_is_below f fd P_is_below) (Z : Zs mg) (G_is_integer : Cal P₀ w K mg base "is_integer" 1 (sp_is_integer K)) : Cal P₀ w K mg base "is_below" 2 (sp_is_below K) := by
  refine Dd.cal sc_is_below (fun ds M P PE h => ?_) (fun cdv A outer s H E ds M P PE hr tk h => ⟨_, (dss_one (ds_ret (de_and (de_call G_is_integer (hr.mono (by decide)) tk (da_cons (de_var 0) da_nil)) (de_one (de_ch or_le or_lt de_int (de_var 0) (de_var 1)))))), ?_⟩)
  · obtain ⟨d, n, rfl, _⟩ := h
    rfl
  · obtain ⟨d, n, rfl, kn, q⟩ := h
    walk_at "w"
    refine ⟨d, rfl, kn, _, rfl, ?_⟩
    cases d with
    | int i =>
      walk_at "w"
      refine ifB_mk (fun h1 => ?_) (fun h1 => ?_) <;> walk_at "w"
      · exact Lk.eq q (by simp [isB, of_decide_eq_true h1])
      · exact Lk.eq q (by simp [isB, of_decide_eq_false h1])
    | _ => exact Lk.of q
abbrev s_is_between : Stmt := top 10
abbrev N_is_between : List Str := ["value", "least", "most"]
abbrev P_is_between : List Str := ["value", "least", "most"]
theorem sc_is_between : FnScope N_is_between P_is_between (defScope s_is_between) := ⟨rfl, rfl, rfl, by decide +kernel, rfl, by decide +kernel, by decide +kernel⟩
def isBt (l n : Int) : D → Bool
  | .int i => decide (l ≤ i) && decide (i ≤ n)
  | _ => false
def sp_is_between (K : PySem.W.Frag) : DSp := fun ds M Q _ => ∃ d l n, ds = [d, .int l, .int n] ∧ Kn K M d ∧ Q (.bl (isBt l n d)) M
theorem ok_is_between {f : Addr} {fd : FuncData} (Dd : Df K mg "is_between" s_is_between f fd P_is_between) (Z : Zs mg) (G_is_integer : Cal P₀ w K mg base "is_integer" 1 (sp_is_integer K)) : Cal P₀ w K mg base "is_between" 2 (sp_is_between K) := by
  refine Dd.cal sc_is_between (fun ds M P PE h => ?_) (fun cdv A outer s H E ds M P PE hr tk h => ⟨_, (dss_one (ds_ret (de_and (de_call G_is_integer (hr.mono (by decide)) tk (da_cons (de_var 0) da_nil)) (de_one (de_ch or_le or_le (de_var 1) (de_var 0) (de_var 2)))))), ?_⟩)
  · obtain ⟨d, l, n, rfl, _⟩ := h
    rfl
  · obtain ⟨d, l, n, rfl, kn, q⟩ := h
    walk_at "w"
    refine ⟨d, rfl, kn, _, rfl, ?_⟩
    cases d with
    | int i =>
      walk_at "w"
      refine ifB_mk (fun h1 => ?_) (fun h1 => ?_) <;> walk_at "w"
      · exact Lk.eq q (by simp [isBt, of_decide_eq_true h1])
      · exact Lk.eq q (by simp [isBt, of_decide_eq_false h1])
    | _ => exact Lk.of q
abbrev s_is_sequence : Stmt := top 12
abbrev N_is_sequence : List Str := ["value"]
abbrev P_is_sequence : List Str := ["value"]
theorem sc_is_sequence : FnScope N_is_sequence P_is_sequence (defScope s_is_sequence) := ⟨rfl, rfl, rfl, by decide +kernel, rfl, by decide +kernel, by decide +kernel⟩
def sp_is_sequence (K : PySem.W.Frag) : DSp := fun ds M Q _ => ∃ d o, ds = [d] ∧ Vw K M d o ∧ Q (.bl o.isSome) M
theorem ok_is_sequence {f : Addr} {fd : FuncData} (Dd : Df K mg "is_sequence" s_is_sequence f fd P_is_sequence) (Z : Zs mg) : Cal P₀ w K mg base "is_sequence" 1 (sp_is_sequence K) := by
  refine Dd.cal sc_is_sequence (fun ds M P PE h => ?_) (fun cdv A outer s H E ds M P PE hr tk h => ⟨_, (dss_one (ds_ret (de_is2 (T := "list") (U := "tuple") Z.isi Z.lst Z.tup (de_var 0)))), ?_⟩)
  · obtain ⟨d, k, rfl, _⟩ := h
    rfl
  · obtain ⟨d, o, rfl, hv, q⟩ := h
    obtain ⟨k, hk, ok, e⟩ := hv.kind
    walk_at "w"
    exact ⟨k, hk, ok, Lk.eq q (by rw [e])⟩
abbrev s_product_of : Stmt := top 16
abbrev N_product_of : List Str := ["numbers", "whole", "number"]
abbrev P_product_of : List Str := ["numbers"]
theorem sc_product_of : FnScope N_product_of P_product_of (defScope s_product_of) := ⟨rfl, rfl, rfl, by decide +kernel, rfl, by decide +kernel, by decide +kernel⟩
def prodI (ns : List Int) : Int := ns.foldl (· * ·) 1
/-- whole numbers that are not too great -/
def Sm (n : Int) : Prop := -(2 ^ 64) < n ∧ n < 2 ^ 64
def sp_product_of : DSp := fun ds M Q _ => ∃ (d : D) (ns : List Int), ds = [d] ∧ SqD M d (ns.map D.int) ∧ (∀ n ∈ ns, Sm n) ∧ Q (.int (prodI ns)) M
theorem int_at {ns : List Int} {i : Nat} {x : D} (hx : (ns.map D.int)[i]? = some x) : ∃ n, ns[i]? = some n ∧ x = D.int n := by
  rw [List.getElem?_map] at hx
  obtain ⟨n, a, b⟩ := Option.map_eq_some_iff.mp hx
  exact ⟨n, a, b.symm⟩
theorem en_at {ds : List D} {i : Nat} {x : D} (hx : (enD ds)[i]? = some x) : ∃ d, ds[i]? = some d ∧ x = .tup [.int (i : Nat), d] := by
  unfold enD at hx
  rw [List.getElem?_map, List.getElem?_zipIdx] at hx
  cases e : ds[i]? with
  | none => rw [e] at hx; cases hx
  | some d =>
    rw [e] at hx
    have hx := Option.some.inj hx
    exact ⟨d, rfl, by rw [← hx]; simp⟩
theorem ok_product_of {f : Addr} {fd : FuncData} (Dd : Df K mg "product_of" s_product_of f fd P_product_of) (Z : Zs mg) : Cal P₀ w K mg base "product_of" 1 sp_product_of := by
  refine Dd.cal sc_product_of (fun ds M P PE h => ?_) (fun cdv A outer s H E ds M P PE hr tk h => ⟨_, (dss_cons (ds_set 1 sc_product_of.nd de_int)
    (dss_cons (ds_for (passes_of rfl) (di_sq (de_var 0)) (dg_name 2 sc_product_of.nd) (dss_one (ds_set 1 sc_product_of.nd (de_op or_mul (de_var 1) (de_var 2)))))
    (dss_one (ds_ret (de_var 1))))), ?_⟩)
  · obtain ⟨d, k, rfl, _⟩ := h
    rfl
  · obtain ⟨d, ns, rfl, hs, hn, q⟩ := h
    walk_at "w"
    refine ⟨_, hs, fun i s M' => M' = M ∧ ∃ y, s = [some d, some (.int (prodI (ns.take i))), y], .of ⟨rfl, _, rfl⟩, fun i s M' _ ⟨e, _⟩ => e ▸ hs, ?_, ?_⟩
    · rintro i x s M' hx ⟨rfl, y, rfl⟩
      obtain ⟨n, hn1, rfl⟩ := int_at hx
      walk_at "w"
      refine ⟨.inr (hn n (List.mem_of_getElem? hn1)), ?_⟩
      walk_at "w"
      refine ⟨_, _, Lss.refl _, Les.refl _, rfl, some (.int n), ?_⟩
      rw [prodI, prodI, List.take_add_one, hn1, List.foldl_append]
      rfl
    · rintro s M' ⟨rfl, y, rfl⟩
      walk_at "w"
      rw [List.length_map, List.take_length]
      exact Lk.of q
abbrev s_wrong_place : Stmt := top 13
abbrev N_wrong_place : List Str := ["sizes", "value", "at", "size"]
abbrev P_wrong_place : List Str := ["sizes", "value"]
theorem sc_wrong_place : FnScope N_wrong_place P_wrong_place (defScope s_wrong_place) := ⟨rfl, rfl, rfl, by decide +kernel, rfl, by decide +kernel, by decide +kernel⟩
def wpD (ns : List Int) : Option (List D) → D
  | none => .int (-1)
  | some xs => if xs.length = ns.length then plD (firstN (fun i => !isB (ns.getD i 0) (xs.getD i .non)) ns.length) else .int (-1)
def sp_wrong_place (K : PySem.W.Frag) : DSp := fun ds M Q _ => ∃ (c d : D) (ns : List Int) (o : Option (List D)), ds = [c, d] ∧ SqD M c (ns.map D.int) ∧ Vw K M d o ∧ Q (wpD ns o) M
theorem ok_wrong_place {f : Addr} {fd : FuncData} (Dd : Df K mg "wrong_place" s_wrong_place f fd P_wrong_place) (Z : Zs mg) (G_is_sequence : Cal P₀ w K mg base "is_sequence" 1 (sp_is_sequence K)) (G_is_below : Cal P₀ w K mg base "is_below" 2 (sp_is_below K)) : Cal P₀ w K mg base "wrong_place" 3 (sp_wrong_place K) := by
  refine Dd.cal sc_wrong_place (fun ds M P PE h => ?_) (fun cdv A outer s H E ds M P PE hr tk h => ⟨_, (dss_cons (ds_if (DW.dt (dw_or (dt_not (dt_tru (de_call G_is_sequence (hr.mono (by decide)) tk (da_cons (de_var 1) da_nil)))) (dw_or1 (dt_cmp (or_ne hr.r.units) (de_fnB cr_len Z.len (da_cons (de_var 1) da_nil)) (de_fnB cr_len Z.len (da_cons (de_var 0) da_nil)))))) (dss_one (ds_ret (de_neg de_int))) dss_nil)
    (dss_cons (ds_for (passes_of rfl) (di_en Z.enum (de_var 0)) (dg_tup (n := 2) rfl (dgs_cons (dg_name 2 sc_wrong_place.nd) (dgs_cons (dg_name 3 sc_wrong_place.nd) dgs_nil))) (dss_one (ds_if (dt_not (dt_tru (de_call G_is_below (hr.mono (by decide)) tk (da_cons (de_ix (de_var 1) (de_var 2)) (da_cons (de_var 3) da_nil))))) (dss_one (ds_ret (de_var 2))) dss_nil)))
    (dss_one (ds_ret de_non)))), ?_⟩)
  · obtain ⟨c, d, _, _, rfl, _⟩ := h
    rfl
  · obtain ⟨c, d, ns, o, rfl, hc, hv, q⟩ := h
    walk_at "w"
    refine ⟨d, o, rfl, hv, ?_⟩
    cases o with
    | none =>
      walk_at "w"
      exact Lk.of q
    | some xs =>
      walk_at "w"
      refine .inl ⟨xs, hv.1, ?_⟩
      walk_at "w"
      refine .inl ⟨_, hc, ?_⟩
      walk_at "w"
      refine ifB_mk (fun h1 => ?_) (fun h1 => ?_)
      · have e : ¬ xs.length = ns.length := by simp at h1; omega
        walk_at "w"
        exact Lk.eq q (if_neg e)
      · have e : xs.length = ns.length := by simp at h1; omega
        walk_at "w"
        refine ⟨_, hc, fun i s M' => M' = M ∧ firstN (fun i => !isB (ns.getD i 0) (xs.getD i .non)) i = none ∧ ∃ y z, s = [some c, some d, y, z], .of ⟨rfl, rfl, _, _, rfl⟩, fun i s M' _ ⟨e, _⟩ => e ▸ hc, ?_, ?_⟩
        · rintro i x s M' hx ⟨rfl, hf, y, z, rfl⟩
          obtain ⟨t, h2, rfl⟩ := en_at hx
          obtain ⟨n, h3, rfl⟩ := int_at h2
          obtain ⟨hi, hn⟩ := List.getElem?_eq_some_iff.mp h3
          have h4 : xs[i]? = some xs[i] := List.getElem?_eq_getElem (by omega)
          refine ⟨rfl, ?_⟩
          walk_at "w"
          refine .inl ⟨xs, (i : Nat), xs[i], hv.1, rfl, atI_nat h4, ?_⟩
          walk_at "w"
          refine ⟨_, _, rfl, hv.2 _ (List.mem_of_getElem? h4), ?_⟩
          have e1 : ns.getD i 0 = n := by rw [List.getD_eq_getElem?_getD, h3]; rfl
          have e2 : xs.getD i .non = xs[i] := by rw [List.getD_eq_getElem?_getD, h4]; rfl
          cases hb : isB n xs[i] with
          | true =>
            walk_at "w"
            exact ⟨_, _, Lss.refl _, Les.refl _, rfl, firstN_step hf (by simp only [e1, e2, hb]; rfl), _, _, rfl⟩
          | false =>
            walk_at "w"
            exact Lk.eq q (by show (if xs.length = ns.length then _ else _) = _; rw [if_pos e, firstN_hit hf (by simp only [e1, e2, hb]; rfl) hi]; rfl)
        · rintro s M' ⟨rfl, hf, y, z, rfl⟩
          walk_at "w"
          have l : (enD (ns.map D.int)).length = ns.length := by simp [enD]
          rw [l] at hf
          exact Lk.eq q (by show (if xs.length = ns.length then _ else _) = _; rw [if_pos e, hf]; rfl)
end
end K83
set_option linter.all false
namespace K83
open PySem PySem.Spec PyProof.Rows L2 DL
local macro_rules | `(tactic| walk_at "w") => `(tactic| conv => whnf)
/-- what stands in the module beside the defs -/
structure Tb (P₀ : Program) (w : World) (K : PySem.W.Frag) (mg : Str → Option Value) (base : Heap) (C_Board C_BoardError C_InvalidBoard C_InvalidSetting C_InvalidSize : Addr) : Prop where
  c_MOST_PARTS : ∃ t, mg "MOST_PARTS" = some (.int 8 t)
  c_MOST_SETTINGS : ∃ t, mg "MOST_SETTINGS" = some (.int 20000 t)
  x_InvalidBoard : ExK P₀ w K mg base "InvalidBoard" C_InvalidBoard "at"
  x_InvalidSetting : ExK P₀ w K mg base "InvalidSetting" C_InvalidSetting "at"
  x_InvalidSize : ExK P₀ w K mg base "InvalidSize" C_InvalidSize "word"
  e_InvalidBoard : ExI K C_InvalidBoard
  e_InvalidSetting : ExI K C_InvalidSetting
  e_InvalidSize : ExI K C_InvalidSize
  n_BoardError : mg "BoardError" = some (.ref C_BoardError)
  n_InvalidBoard : mg "InvalidBoard" = some (.ref C_InvalidBoard)
  n_ValueError : mg "ValueError" = none
  is_InvalidSize_BoardError : PySem.W.kitOne K (.ref C_InvalidSize) (.ref C_BoardError) = some true
  is_InvalidSize_InvalidBoard : PySem.W.kitOne K (.ref C_InvalidSize) (.ref C_InvalidBoard) = some false
  is_InvalidBoard_BoardError : PySem.W.kitOne K (.ref C_InvalidBoard) (.ref C_BoardError) = some true
  is_InvalidBoard_ValueError : PySem.W.kitOne K (.ref C_InvalidBoard) (.type "ValueError") = some false
  is_InvalidSetting_BoardError : PySem.W.kitOne K (.ref C_InvalidSetting) (.ref C_BoardError) = some true
  ex_ZZ : PySem.W.exmOne K (.ref C_InvalidSize) (.ref C_InvalidSize) = some true
  ex_BZ : PySem.W.exmOne K (.ref C_InvalidBoard) (.ref C_InvalidSize) = some false
  ex_BB : PySem.W.exmOne K (.ref C_InvalidBoard) (.ref C_InvalidBoard) = some true
  ex_SS : PySem.W.exmOne K (.ref C_InvalidSetting) (.ref C_InvalidSetting) = some true
  g_Board : mg "Board" = some (.ref C_Board)
  i_Board : ClsI K C_Board
  na_many : NoAttr K C_Board "many"
  na_sizes : NoAttr K C_Board "sizes"
  na_marks : NoAttr K C_Board "marks"
  na_steps : NoAttr K C_Board "steps"
theorem upM_two {M : DHp} {p : Addr} {a b : DO} : upM (upM M p a) p b = upM M p b := by
  funext x
  unfold upM
  by_cases h : x = p <;> simp [h]
theorem les_new {M : DHp} {q : Addr} {o : DO} (h : M q = none) : Les M (upM M q o) := fun a u e => by
  have n : a ≠ q := fun z => by rw [z, h] at e; cases e
  show (if a = q then some o else M a) = some u
  rw [if_neg n]
  exact e
theorem les_up {M M' : DHp} {p : Addr} {o : DO} (l : Les M M') : Les (upM M p o) (upM M' p o) := fun a u e => by
  have e : (if a = p then some o else M a) = some u := e
  show (if a = p then some o else M' a) = some u
  by_cases h : a = p
  · rw [if_pos h] at e ⊢; exact e
  · rw [if_neg h] at e ⊢; exact l _ _ e
section
variable {P₀ : Program} {w : World} {K : PySem.W.Frag} {mg : Str → Option Value} {base : Heap} {C_Board C_BoardError C_InvalidBoard C_InvalidSetting C_InvalidSize : Addr}
abbrev s_wrong_size : Stmt := top 23
abbrev N_wrong_size : List Str := ["value", "at", "size"]
abbrev P_wrong_size : List Str := ["value"]
theorem sc_wrong_size : FnScope N_wrong_size P_wrong_size (defScope s_wrong_size) := ⟨rfl, rfl, rfl, by decide +kernel, rfl, by decide +kernel, by decide +kernel⟩
def isP : D → Bool
  | .int i => decide (1 ≤ i)
  | _ => false
def wsD : Option (List D) → D
  | none => .int (-1)
  | some xs => if 1 ≤ xs.length ∧ xs.length ≤ 8 then plD (firstN (fun i => !isP (xs.getD i .non)) xs.length) else .int (-1)
def sp_wrong_size (K : PySem.W.Frag) : DSp := fun ds M Q _ => ∃ (d : D) (o : Option (List D)), ds = [d] ∧ Vw K M d o ∧ Q (wsD o) M
theorem ok_wrong_size {f : Addr} {fd : FuncData} (Dd : Df K mg "wrong_size" s_wrong_size f fd P_wrong_size) (Z : Zs mg) (T : Tb P₀ w K mg base C_Board C_BoardError C_InvalidBoard C_InvalidSetting C_InvalidSize) (G_is_sequence : Cal P₀ w K mg base "is_sequence" 1 (sp_is_sequence K)) (G_is_integer : Cal P₀ w K mg base "is_integer" 1 (sp_is_integer K)) : Cal P₀ w K mg base "wrong_size" 2 (sp_wrong_size K) := by
  refine Dd.cal sc_wrong_size (fun ds M P PE h => ?_) (fun cdv A outer s H E ds M P PE hr tk h => ⟨_, (dss_cons (ds_if (DW.dt (dw_or (dt_not (dt_tru (de_call G_is_sequence (hr.mono (by decide)) tk (da_cons (de_var 0) da_nil)))) (dw_or1 (dt_not (dt_ch or_le or_le de_int (de_fnB cr_len Z.len (da_cons (de_var 0) da_nil)) (de_gint T.c_MOST_PARTS)))))) (dss_one (ds_ret (de_neg de_int))) dss_nil)
    (dss_cons (ds_for (passes_of rfl) (di_en Z.enum (de_var 0)) (dg_tup (n := 2) rfl (dgs_cons (dg_name 1 sc_wrong_size.nd) (dgs_cons (dg_name 2 sc_wrong_size.nd) dgs_nil))) (dss_one (ds_if (DW.dt (dw_or (dt_not (dt_tru (de_call G_is_integer (hr.mono (by decide)) tk (da_cons (de_var 2) da_nil)))) (dw_or1 (dt_cmp or_lt (de_var 2) de_int)))) (dss_one (ds_ret (de_var 1))) dss_nil)))
    (dss_one (ds_ret de_non)))), ?_⟩)
  · obtain ⟨d, _, rfl, _⟩ := h
    rfl
  · obtain ⟨d, o, rfl, hv, q⟩ := h
    walk_at "w"
    refine ⟨d, o, rfl, hv, ?_⟩
    cases o with
    | none =>
      walk_at "w"
      exact Lk.of q
    | some xs =>
      have bad : ∀ h : ¬ (1 ≤ xs.length ∧ xs.length ≤ 8), wsD (some xs) = .int (-1) := fun h => if_neg h
      walk_at "w"
      refine .inl ⟨xs, hv.1, ?_⟩
      walk_at "w"
      refine ifB_mk (fun h1 => ?_) (fun h1 => ?_) <;> walk_at "w"
      · refine ifB_mk (fun h2 => ?_) (fun h2 => ?_)
        · have e : ¬ (1 ≤ xs.length ∧ xs.length ≤ 8) := by simp at h1 h2; omega
          walk_at "w"
          exact Lk.eq q (bad e)
        · have e : 1 ≤ xs.length ∧ xs.length ≤ 8 := by simp at h1 h2; omega
          have l : (enD xs).length = xs.length := by simp [enD]
          walk_at "w"
          refine ⟨_, hv.1, fun i s M' => M' = M ∧ firstN (fun i => !isP (xs.getD i .non)) i = none ∧ ∃ y z, s = [some d, y, z], .of ⟨rfl, rfl, _, _, rfl⟩, fun i s M' _ ⟨e, _⟩ => e ▸ hv.1, ?_, ?_⟩
          · rintro i x s M' hx ⟨rfl, hf, y, z, rfl⟩
            obtain ⟨t, h3, rfl⟩ := en_at hx
            obtain ⟨hi, _⟩ := List.getElem?_eq_some_iff.mp h3
            have e2 : xs.getD i .non = t := by rw [List.getD_eq_getElem?_getD, h3]; rfl
            refine ⟨rfl, ?_⟩
            walk_at "w"
            refine ⟨_, rfl, hv.2 _ (List.mem_of_getElem? h3), ?_⟩
            have no : isP t = false → wsD (some xs) = .int (i : Nat) := fun hb => by
              show (if _ then _ else _) = _
              rw [if_pos e, firstN_hit hf (by simp only [e2, hb]; rfl) hi]
              rfl
            cases t with
            | int n =>
              walk_at "w"
              refine ifB_mk (fun h4 => ?_) (fun h4 => ?_)
              · walk_at "w"
                exact Lk.eq q (no (by simp [isP] at h4 ⊢; omega))
              · walk_at "w"
                exact ⟨_, _, Lss.refl _, Les.refl _, rfl, firstN_step hf (by simp only [e2]; simp [isP] at h4 ⊢; omega), _, _, rfl⟩
            | _ =>
              walk_at "w"
              exact Lk.eq q (no rfl)
          · rintro s M' ⟨rfl, hf, y, z, rfl⟩
            walk_at "w"
            rw [l] at hf
            exact Lk.eq q (by show (if _ then _ else _) = _; rw [if_pos e, hf]; rfl)
      · have e : ¬ (1 ≤ xs.length ∧ xs.length ≤ 8) := by simp at h1; omega
        exact Lk.eq q (bad e)
abbrev s_setting_number : Stmt := top 21
abbrev N_setting_number : List Str := ["sizes", "setting", "number", "size", "content"]
abbrev P_setting_number : List Str := ["sizes", "setting"]
theorem sc_setting_number : FnScope N_setting_number P_setting_number (defScope s_setting_number) := ⟨rfl, rfl, rfl, by decide +kernel, rfl, by decide +kernel, by decide +kernel⟩
def numI (ns ks : List Int) : Int := (ns.zip ks).foldl (fun a p => a * p.1 + p.2) 0
theorem pr_at {xs ys : List D} {i : Nat} {x : D} (hx : (DL.prD xs ys)[i]? = some x) : ∃ a b, xs[i]? = some a ∧ ys[i]? = some b ∧ x = .tup [a, b] := by
  unfold DL.prD at hx
  rw [List.getElem?_map] at hx
  obtain ⟨⟨a, b⟩, h, rfl⟩ := Option.map_eq_some_iff.mp hx
  obtain ⟨h1, h2⟩ := List.getElem?_zip_eq_some.mp h
  exact ⟨a, b, h1, h2, rfl⟩
def sp_setting_number : DSp := fun ds M Q _ => ∃ (c d : D) (ns ks : List Int), ds = [c, d] ∧ SqD M c (ns.map D.int) ∧ SqD M d (ks.map D.int) ∧ (∀ n ∈ ns, Sm n) ∧ Q (.int (numI ns ks)) M
theorem ok_setting_number {f : Addr} {fd : FuncData} (Dd : Df K mg "setting_number" s_setting_number f fd P_setting_number) (Z : Zs mg) : FnD P₀ w K mg base 1 f fd P_setting_number sp_setting_number := by
  refine fn_D Dd.F sc_setting_number (fun ds M P PE h => ?_) (fun cdv A outer s H E ds M P PE hr tk h => ⟨_, (dss_cons (ds_set 2 sc_setting_number.nd de_int)
    (dss_cons (ds_for (passes_of rfl) (di_zp Z.zip (de_var 0) (de_var 1)) (dg_tup (n := 2) rfl (dgs_cons (dg_name 3 sc_setting_number.nd) (dgs_cons (dg_name 4 sc_setting_number.nd) dgs_nil))) (dss_one (ds_set 2 sc_setting_number.nd (de_op or_add (de_op or_mul (de_var 2) (de_var 3)) (de_var 4)))))
    (dss_one (ds_ret (de_var 2))))), ?_⟩)
  · obtain ⟨c, d, _, _, rfl, _⟩ := h
    rfl
  · obtain ⟨c, d, ns, ks, rfl, hc, hd, hn, q⟩ := h
    walk_at "w"
    refine ⟨_, _, hc, hd, fun i s M' => M' = M ∧ ∃ y z, s = [some c, some d, some (.int (((ns.zip ks).take i).foldl (fun a p => a * p.1 + p.2) 0)), y, z], .of ⟨rfl, _, _, rfl⟩, fun i s M' _ ⟨e, _⟩ => e ▸ ⟨hc, hd⟩, ?_, ?_⟩
    · rintro i x s M' hx ⟨rfl, y, z, rfl⟩
      obtain ⟨a, b, h1, h2, rfl⟩ := pr_at hx
      obtain ⟨n, g1, rfl⟩ := int_at h1
      obtain ⟨k, g2, rfl⟩ := int_at h2
      refine ⟨rfl, ?_⟩
      walk_at "w"
      refine ⟨.inr (hn n (List.mem_of_getElem? g1)), ?_⟩
      walk_at "w"
      refine ⟨_, _, Lss.refl _, Les.refl _, rfl, some (.int n), some (.int k), ?_⟩
      rw [List.take_add_one, (List.getElem?_zip_eq_some (z := (n, k))).mpr ⟨g1, g2⟩, List.foldl_append]
      rfl
    · rintro s M' ⟨rfl, y, z, rfl⟩
      walk_at "w"
      have l : (DL.prD (ns.map D.int) (ks.map D.int)).length = (ns.zip ks).length := by simp [DL.prD]
      rw [l, List.take_length]
      exact Lk.of q
abbrev s_steps_of : Stmt := top 24
abbrev N_steps_of : List Str := ["sizes", "part"]
abbrev P_steps_of : List Str := ["sizes"]
theorem sc_steps_of : FnScope N_steps_of P_steps_of (defScope s_steps_of) := ⟨rfl, rfl, rfl, by decide +kernel, rfl, by decide +kernel, by decide +kernel⟩
def stepsI (ns : List Int) : List Int := (List.range ns.length).map fun p => prodI (ns.drop (p + 1))
def sp_steps_of : DSp := fun ds M Q _ => ∃ (ns : List Int), ds = [.tup (ns.map D.int)] ∧ ns.length ≤ 100000 ∧ (∀ n ∈ ns, Sm n) ∧ Q (.tup ((stepsI ns).map D.int)) M
theorem cut_from {xs : List D} {i : Nat} : DL.cutD xs (some (i : Int)) none = xs.drop i := by
  unfold DL.cutD
  rw [HT.sIx_nat, HT.sIx_none]
  by_cases h : i ≤ xs.length
  · rw [Nat.min_eq_left h]
    exact List.take_of_length_le (by simp)
  · rw [Nat.min_eq_right (by omega), List.drop_length, List.drop_eq_nil_of_le (by omega)]
    simp
theorem cut_to {xs : List D} {i : Nat} : DL.cutD xs none (some (i : Int)) = xs.take i := by
  unfold DL.cutD
  rw [HT.sIx_nat, HT.sIx_none]
  by_cases h : i ≤ xs.length
  · rw [Nat.min_eq_left h]
    simp
  · rw [Nat.min_eq_right (by omega), List.drop_zero, Nat.sub_zero, List.take_of_length_le (Nat.le_refl _), List.take_of_length_le (by omega)]
theorem rg_at {n : Nat} {i : Nat} {x : D} (hx : (rgD 0 (n : Nat))[i]? = some x) : i < n ∧ x = .int (i : Nat) := by
  unfold rgD at hx
  rw [List.getElem?_map] at hx
  obtain ⟨j, h, rfl⟩ := Option.map_eq_some_iff.mp hx
  obtain ⟨h1, h2⟩ := List.getElem?_eq_some_iff.mp h
  simp at h1 h2
  subst h2
  exact ⟨h1, by simp⟩
theorem rg_len {n : Nat} : (rgD 0 (n : Nat)).length = n := by simp [rgD]
theorem size_ok {n : Nat} (h : n ≤ 100000) : n < sizeLine := Nat.lt_of_le_of_lt h (by decide)
theorem ok_steps_of {f : Addr} {fd : FuncData} (Dd : Df K mg "steps_of" s_steps_of f fd P_steps_of) (Z : Zs mg) (G_product_of : Cal P₀ w K mg base "product_of" 1 sp_product_of) : Cal P₀ w K mg base "steps_of" 2 sp_steps_of := by
  refine Dd.cal sc_steps_of (fun ds M P PE h => ?_) (fun cdv A outer s H E ds M P PE hr tk h => ⟨_, (dss_one (ds_ret (de_fnT cr_tup Z.tup (da_cons (de_lc sc_steps_of.nd (own := [("part", 1)]) (di_rg1 Z.rng (de_fnB cr_len Z.len (da_cons (de_var 0) da_nil))) (blkOk_by (N := N_steps_of) (sc := defScope s_steps_of) (by decide +kernel)) (ct_name 1)
      (fun _ _ _ _ _ => (pg_name (i := 1) sc_steps_of.nd rfl (.inl rfl))) (fun _ _ _ _ _ => dts_nil) (fun _ _ _ _ _ => (de_call G_product_of (hr.mono (by decide)) tk0 (da_cons (de_sl (de_var 0) (dpo_some (de_op or_add (de_var 1) de_int)) dpo_none) da_nil)))) da_nil)))), ?_⟩)
  · obtain ⟨_, rfl, _⟩ := h
    rfl
  · obtain ⟨ns, rfl, hl, hn, q⟩ := h
    walk_at "w"
    refine .inl ⟨_, .tup, ?_⟩
    walk_at "w"
    refine ⟨_, rfl, by simp; omega, ?_⟩
    walk_at "w"
    refine ⟨fun i acc M' => M' = M ∧ acc = ((stepsI ns).take i).map D.int, ⟨_, .refl _, rfl, rfl⟩, fun _ _ _ _ _ => trivial, ?_, ?_⟩
    · rintro i x acc M' hx ⟨rfl, rfl⟩
      rw [List.length_map] at hx
      obtain ⟨hi, rfl⟩ := rg_at hx
      walk_at "w"
      refine ⟨_, rfl, ?_⟩
      have e : DL.cutD (ns.map D.int) (some ((i : Nat) + 1 : Int)) none = (ns.drop (i + 1)).map D.int := by
        rw [show ((i : Nat) + 1 : Int) = ((i + 1 : Nat) : Int) from by omega, cut_from, List.map_drop]
      refine ⟨_, ns.drop (i + 1), rfl, ?_, fun n h => hn n (List.mem_of_mem_drop h), ?_⟩
      · rw [← e]
        exact .tup
      · have l : (((stepsI ns).take i).map D.int).length = i := by simp [stepsI]; omega
        refine ⟨by rw [l]; exact size_ok (by omega), _, .refl _, rfl, ?_⟩
        rw [List.take_add_one, List.map_append]
        congr 1
        simp [stepsI, hi]
    · rintro acc M' ⟨rfl, rfl⟩
      intro p hp
      refine ⟨_, .ref upM_same, _, les_new hp, ?_⟩
      rw [List.length_map, rg_len, List.take_of_length_le (by simp [stepsI])]
      exact q
end
end K83
set_option linter.all false
namespace K83
open PySem PySem.Spec PyProof.Rows L2 DL
local macro_rules | `(tactic| walk_at "w") => `(tactic| conv => whnf)
theorem kindD_les {M M' : DHp} {d : D} {k : Kd} (l : Les M M') (h : kindD M d = some k) : kindD M' d = some k := by
  cases d with
  | ref a =>
    have h : kindO (M a) = some k := h
    show kindO (M' a) = some k
    cases e : M a with
    | none => rw [e] at h; cases h
    | some o => rw [l _ _ e, ← e]; exact h
  | _ => exact h
theorem Kn.les {K : PySem.W.Frag} {M M' : DHp} {d : D} (l : Les M M') (h : Kn K M d) : Kn K M' d := let ⟨k, a, b⟩ := h; ⟨k, kindD_les l a, b⟩
theorem Vw.les {K : PySem.W.Frag} {M M' : DHp} {d : D} {o : Option (List D)} (l : Les M M') (h : Vw K M d o) : Vw K M' d o := match o, h with
  | none, ⟨k, a, b⟩ => ⟨k, kindD_les l a, b⟩
  | some _, ⟨a, b⟩ => ⟨a.les l, fun x hx => (b x hx).les l⟩
def toI : D → Int
  | .int i => i
  | _ => 0
theorem all_int {p : D → Bool} (hp : ∀ d, p d = true → ∃ i, d = .int i) {xs : List D} (h : ∀ x ∈ xs, p x = true) : xs = (xs.map toI).map D.int := by
  induction xs with
  | nil => rfl
  | cons x xs ih =>
    obtain ⟨i, rfl⟩ := hp x (h x List.mem_cons_self)
    rw [List.map_cons, List.map_cons, ← ih fun y hy => h y (List.mem_cons_of_mem _ hy)]
    rfl
theorem isP_int {d : D} (h : isP d = true) : ∃ i, d = .int i := by cases d <;> first | exact ⟨_, rfl⟩ | cases h
theorem isB_int {n : Int} {d : D} (h : isB n d = true) : ∃ i, d = .int i := by cases d <;> first | exact ⟨_, rfl⟩ | cases h
theorem pl_non {o : Option Nat} (h : plD o = .non) : o = none := by cases o <;> first | rfl | cases h
theorem getD_mem {xs : List D} {x : D} (h : x ∈ xs) : ∃ i, i < xs.length ∧ xs.getD i .non = x := by
  obtain ⟨i, hi, e⟩ := List.getElem_of_mem h
  exact ⟨i, hi, by rw [List.getD_eq_getElem?_getD, List.getElem?_eq_getElem hi, e]; rfl⟩
theorem ws_ok {o : Option (List D)} (h : wsD o = .non) : ∃ ns : List Int, o = some (ns.map D.int) ∧ 1 ≤ ns.length ∧ ns.length ≤ 8 ∧ ∀ n ∈ ns, 1 ≤ n := by
  cases o with
  | none => cases h
  | some xs =>
    have h : (if 1 ≤ xs.length ∧ xs.length ≤ 8 then plD (firstN (fun i => !isP (xs.getD i .non)) xs.length) else .int (-1)) = .non := h
    split at h
    · rename_i hl
      have f := firstN_none (pl_non h)
      have a : ∀ x ∈ xs, isP x = true := fun x hx => by
        obtain ⟨i, hi, e⟩ := getD_mem hx
        have := f i hi
        rw [e] at this
        simpa using this
      have e := all_int (fun _ => isP_int) a
      refine ⟨xs.map toI, congrArg some e, by simpa using hl.1, by simpa using hl.2, fun n hn => ?_⟩
      obtain ⟨x, hx, rfl⟩ := List.mem_map.mp hn
      have := a x hx
      obtain ⟨i, rfl⟩ := isP_int this
      exact of_decide_eq_true this
    · cases h
theorem ws_not {o : Option (List D)} (h : wsD o ≠ .non) : ∃ i, wsD o = .int i := by
  cases o with
  | none => exact ⟨_, rfl⟩
  | some xs =>
    have e : wsD (some xs) = (if 1 ≤ xs.length ∧ xs.length ≤ 8 then plD (firstN (fun i => !isP (xs.getD i .non)) xs.length) else .int (-1)) := rfl
    rw [e] at h ⊢
    split at h <;> rename_i q
    · rw [if_pos q]
      cases q : firstN (fun i => !isP (xs.getD i .non)) xs.length with
      | none => rw [q] at h; exact (h rfl).elim
      | some i => exact ⟨_, rfl⟩
    · rw [if_neg q]
      exact ⟨_, rfl⟩
theorem wp_ok {ns : List Int} {o : Option (List D)} (h : wpD ns o = .non) : ∃ ks : List Int, o = some (ks.map D.int) ∧ ks.length = ns.length ∧ ∀ i, i < ns.length → 0 ≤ ks.getD i 0 ∧ ks.getD i 0 < ns.getD i 0 := by
  cases o with
  | none => cases h
  | some xs =>
    have h : (if xs.length = ns.length then plD (firstN (fun i => !isB (ns.getD i 0) (xs.getD i .non)) ns.length) else .int (-1)) = .non := h
    split at h
    · rename_i hl
      have f := firstN_none (pl_non h)
      have a : ∀ i, i < ns.length → isB (ns.getD i 0) (xs.getD i .non) = true := fun i hi => by simpa using f i hi
      have g : ∀ x ∈ xs, (match x with | .int _ => true | _ => false) = true := fun x hx => by
        obtain ⟨i, hi, e⟩ := getD_mem hx
        have := a i (by omega)
        rw [e] at this
        obtain ⟨j, rfl⟩ := isB_int this
        rfl
      have e := all_int (fun d h => by cases d <;> first | exact ⟨_, rfl⟩ | cases h) g
      refine ⟨xs.map toI, congrArg some e, by simpa using hl, fun i hi => ?_⟩
      have := a i hi
      have hx : xs.getD i .non = .int ((xs.map toI).getD i 0) := by
        have hi' : i < xs.length := by omega
        rw [List.getD_eq_getElem?_getD, List.getD_eq_getElem?_getD, List.getElem?_map, List.getElem?_eq_getElem hi']
        obtain ⟨j, hj⟩ : ∃ j, xs[i] = .int j := by
          have := g xs[i] (List.getElem_mem hi')
          cases q : xs[i] <;> rw [q] at this <;> first | exact ⟨_, rfl⟩ | cases this
        show xs[i] = .int (toI xs[i])
        rw [hj]
        rfl
      rw [hx] at this
      simpa [isB] using this
    · cases h
theorem wp_not {ns : List Int} {o : Option (List D)} (h : wpD ns o ≠ .non) : ∃ i, wpD ns o = .int i := by
  cases o with
  | none => exact ⟨_, rfl⟩
  | some xs =>
    have e : wpD ns (some xs) = (if xs.length = ns.length then plD (firstN (fun i => !isB (ns.getD i 0) (xs.getD i .non)) ns.length) else .int (-1)) := rfl
    rw [e] at h ⊢
    split at h <;> rename_i q
    · rw [if_pos q]
      cases q : firstN (fun i => !isB (ns.getD i 0) (xs.getD i .non)) ns.length with
      | none => rw [q] at h; exact (h rfl).elim
      | some i => exact ⟨_, rfl⟩
    · rw [if_neg q]
      exact ⟨_, rfl⟩
/-- what a board is refused for: whether it is its size, and what is told -/
def dueD (m : D) (oS oM : Option (List D)) : Option (Bool × D) :=
  if isBt 2 8 m = true then
    match wsD oS with
    | .non => if prodI ((oS.getD []).map toI) ≤ 20000 then
        match wpD (List.replicate (prodI ((oS.getD []).map toI)).toNat (toI m)) oM with
        | .non => none
        | d => some (false, .tup [.str "marks", d])
      else some (true, .str "settings")
    | d => some (false, .tup [.str "sizes", d])
  else some (false, .str "many")
def bdF (m : D) (oS oM : Option (List D)) : List (Str × D) := [("many", m), ("sizes", .tup (oS.getD [])), ("marks", .tup (oM.getD [])), ("steps", .tup ((stepsI ((oS.getD []).map toI)).map D.int))]
theorem prod_pos {ns : List Int} (h : ∀ n ∈ ns, 1 ≤ n) : 1 ≤ prodI ns := by
  have : ∀ (ns : List Int) (a : Int), 1 ≤ a → (∀ n ∈ ns, 1 ≤ n) → 1 ≤ ns.foldl (· * ·) a := fun ns => by
    induction ns with
    | nil => intro a ha _; exact ha
    | cons n ns ih =>
      intro a ha hn
      refine ih (a * n) ?_ fun m hm => hn m (List.mem_cons_of_mem _ hm)
      have h1 := hn n List.mem_cons_self
      have := Int.mul_le_mul ha h1 (by omega) (by omega)
      simpa using this
  exact this ns 1 (Int.le_refl _) h
theorem map_toI (ns : List Int) : (ns.map D.int).map toI = ns := by
  rw [List.map_map]
  exact List.map_id ns
theorem putD_le {f : Str} {v : D} : ∀ {l : List (Str × D)} {n : Nat}, l.length ≤ n → (putD f v l).length ≤ n + 1
  | [], n, _ => by show 1 ≤ n + 1; omega
  | (g, u) :: l, n, h => by
    have h : l.length + 1 ≤ n := h
    unfold putD
    split
    · show l.length + 1 ≤ n + 1; omega
    · have := putD_le (f := f) (v := v) (l := l) (n := n - 1) (by omega)
      show (putD f v l).length + 1 ≤ n + 1
      omega
theorem sq_up {M : DHp} {p C : Addr} {fs : List (Str × D)} {o : DO} {d : D} {ds : List D} (h : SqD M d ds) (hp : M p = some (.ins C fs)) : SqD (upM M p o) d ds := by
  rcases h with h | ⟨q, rfl, h⟩
  · exact .inl h
  · have n : q ≠ p := fun z => by
      subst z
      rcases h with h | h <;> rw [hp] at h <;> cases h
    refine .inr ⟨q, rfl, ?_⟩
    show (if q = p then some o else M q) = _ ∨ (if q = p then some o else M q) = _
    rw [if_neg n]
    exact h
section
variable {P₀ : Program} {w : World} {K : PySem.W.Frag} {mg : Str → Option Value} {base : Heap} {C_Board C_BoardError C_InvalidBoard C_InvalidSetting C_InvalidSize : Addr}
abbrev s_Board_init : Stmt := inClass (top 25) 0
abbrev N_Board_init : List Str := ["self", "many", "sizes", "marks", "at", "count"]
abbrev P_Board_init : List Str := ["self", "many", "sizes", "marks"]
theorem sc_Board_init : FnScope N_Board_init P_Board_init (defScope s_Board_init) := ⟨rfl, rfl, rfl, by decide +kernel, rfl, by decide +kernel, by decide +kernel⟩
def sp_init (K : PySem.W.Frag) (C_Board C_InvalidBoard C_InvalidSize : Addr) : DSp := fun ds M Q PE => ∃ (p : Addr) (m sz mk : D) (oS oM : Option (List D)), ds = [.ref p, m, sz, mk] ∧ M p = some (.ins C_Board []) ∧ Kn K M m ∧ Vw K M sz oS ∧ Vw K M mk oM ∧ (∀ xs, oS = some xs → ∀ n, D.int n ∈ xs → Sm n) ∧
  match dueD m oS oM with
  | some (true, x) => PE ⟨C_InvalidSize, [("word", x)]⟩ M
  | some (false, x) => PE ⟨C_InvalidBoard, [("at", x)]⟩ M
  | none => Q .non (upM M p (.ins C_Board (bdF m oS oM)))
theorem ok_init {f : Addr} {fd : FuncData} (F : Fun K "__init__" "Board.__init__" s_Board_init f fd) (Z : Zs mg) (T : Tb P₀ w K mg base C_Board C_BoardError C_InvalidBoard C_InvalidSetting C_InvalidSize)
    (G_is_between : Cal P₀ w K mg base "is_between" 2 (sp_is_between K)) (G_wrong_size : Cal P₀ w K mg base "wrong_size" 2 (sp_wrong_size K)) (G_product_of : Cal P₀ w K mg base "product_of" 1 sp_product_of) (G_wrong_place : Cal P₀ w K mg base "wrong_place" 3 (sp_wrong_place K))
    (G_steps_of : Cal P₀ w K mg base "steps_of" 2 sp_steps_of) : FnD P₀ w K mg base 5 f fd P_Board_init (sp_init K C_Board C_InvalidBoard C_InvalidSize) := by
  refine fn_D F sc_Board_init (fun ds M P PE h => ?_) (fun cdv A outer s H E ds M P PE hr tk h => ⟨_, (dss_cons (ds_if (dt_not (dt_tru (de_call G_is_between (hr.mono (by decide)) tk (da_cons (de_var 1) (da_cons de_int (da_cons de_int da_nil)))))) (dss_one (ds_raise T.x_InvalidBoard (hr.mono (by decide)).r tk (da_cons de_str da_nil))) dss_nil)
    (dss_cons (ds_set 4 sc_Board_init.nd (de_call G_wrong_size (hr.mono (by decide)) tk (da_cons (de_var 2) da_nil)))
    (dss_cons (ds_if (dt_cmp or_isn (de_var 4) de_non) (dss_one (ds_raise T.x_InvalidBoard (hr.mono (by decide)).r tk (da_cons (de_tup (da_cons de_str (da_cons (de_var 4) da_nil))) da_nil))) dss_nil)
    (dss_cons (ds_set 5 sc_Board_init.nd (de_call G_product_of (hr.mono (by decide)) tk (da_cons (de_var 2) da_nil)))
    (dss_cons (ds_if (dt_cmp or_gt (de_var 5) (de_gint T.c_MOST_SETTINGS)) (dss_one (ds_raise T.x_InvalidSize (hr.mono (by decide)).r tk (da_cons de_str da_nil))) dss_nil)
    (dss_cons (ds_set 4 sc_Board_init.nd (de_call G_wrong_place (hr.mono (by decide)) tk (da_cons (de_op or_mul (de_lst (da_cons (de_var 1) da_nil)) (de_var 5)) (da_cons (de_var 3) da_nil))))
    (dss_cons (ds_if (dt_cmp or_isn (de_var 4) de_non) (dss_one (ds_raise T.x_InvalidBoard (hr.mono (by decide)).r tk (da_cons (de_tup (da_cons de_str (da_cons (de_var 4) da_nil))) da_nil))) dss_nil)
    (dss_cons (ds_fld (de_var 0) (de_var 1))
    (dss_cons (ds_fld (de_var 0) (de_fnT cr_tup Z.tup (da_cons (de_var 2) da_nil)))
    (dss_cons (ds_fld (de_var 0) (de_fnT cr_tup Z.tup (da_cons (de_var 3) da_nil)))
    (dss_one (ds_fld (de_var 0) (de_call G_steps_of (hr.mono (by decide)) tk (da_cons (de_fld (de_var 0)) da_nil)))))))))))))), ?_⟩)
  · obtain ⟨_, _, _, _, _, _, rfl, _⟩ := h
    rfl
  · obtain ⟨p, m, sz, mk, oS, oM, rfl, hp, km, vS, vM, sm, q⟩ := h
    walk_at "w"
    refine ⟨m, _, _, rfl, km, ?_⟩
    cases hb : isBt 2 8 m with
    | false =>
      have e : dueD m oS oM = some (false, .str "many") := if_neg (by rw [hb]; simp)
      rw [e] at q
      walk_at "w"
      exact ⟨M, .refl M, q⟩
    | true =>
      obtain ⟨mv, rfl⟩ : ∃ i, m = .int i := by cases m <;> first | exact ⟨_, rfl⟩ | cases hb
      walk_at "w"
      refine ⟨sz, oS, rfl, vS, ?_⟩
      by_cases hw : wsD oS = .non
      · obtain ⟨ns, rfl, l1, l2, hn⟩ := ws_ok hw
        rw [hw]
        walk_at "w"
        refine ⟨rfl, ?_⟩
        walk_at "w"
        refine ⟨sz, ns, rfl, vS.1, fun n h => sm _ rfl n (List.mem_map.mpr ⟨n, h, rfl⟩), ?_⟩
        have d1 : dueD (.int mv) (some (ns.map D.int)) oM = if prodI ns ≤ 20000 then (match wpD (List.replicate (prodI ns).toNat mv) oM with
            | .non => none
            | d => some (false, .tup [.str "marks", d])) else some (true, .str "settings") := by
          unfold dueD
          rw [if_pos hb, hw]
          simp only [Option.getD_some, map_toI]
          rfl
        have pp := prod_pos hn
        walk_at "w"
        refine ifB_mk (fun h1 => ?_) (fun h1 => ?_)
        · have h1 : 20000 < prodI ns := of_decide_eq_true h1
          rw [if_neg (by omega)] at d1
          rw [d1] at q
          walk_at "w"
          exact ⟨M, .refl M, q⟩
        · have h1 : prodI ns ≤ 20000 := by have := of_decide_eq_false h1; omega
          rw [if_pos h1] at d1
          walk_at "w"
          refine ⟨(by show 1 ≤ sizeLine; decide), fun a ha => ?_⟩
          walk_at "w"
          refine ⟨_, upM_same, ⟨by omega, by omega, ?_⟩, ?_⟩
          · show 1 * _ ≤ sizeLine
            exact Nat.le_of_lt (size_ok (by omega))
          intro b hb2
          have l1' : Les M (upM (upM M a (.lst [.int mv])) b (.lst (List.replicate (prodI ns).toNat [D.int mv]).flatten)) := fun x o e => les_new hb2 _ _ (les_new ha _ _ e)
          have fl : (List.replicate (prodI ns).toNat [D.int mv]).flatten = (List.replicate (prodI ns).toNat mv).map D.int := by
            rw [List.map_replicate]
            generalize (prodI ns).toNat = n
            induction n with
            | zero => rfl
            | succ n ih => rw [List.replicate_succ, List.flatten_cons, ih, List.replicate_succ]; rfl
          walk_at "w"
          refine ⟨.ref b, mk, List.replicate (prodI ns).toNat mv, oM, rfl, .inr ⟨b, rfl, .inl (by rw [← fl]; exact upM_same)⟩, vM.les l1', ?_⟩
          by_cases hq : wpD (List.replicate (prodI ns).toNat mv) oM = .non
          · obtain ⟨ks, rfl, l3, hk⟩ := wp_ok hq
            rw [hq] at d1
            rw [d1] at q
            rw [hq]
            have hp' := l1' _ _ hp
            walk_at "w"
            refine ⟨rfl, ?_⟩
            walk_at "w"
            refine ⟨p, C_Board, [], rfl, hp', T.i_Board.cl, T.na_many, by decide, ?_⟩
            walk_at "w"
            refine ⟨_, sq_up (vS.les l1').1 hp', ?_⟩
            walk_at "w"
            refine ⟨p, C_Board, _, rfl, upM_same, T.i_Board.cl, T.na_sizes, Nat.lt_of_le_of_lt (putD_le (Nat.zero_le 0)) (by decide), ?_⟩
            walk_at "w"
            refine ⟨_, sq_up (sq_up (vM.les l1').1 hp') upM_same, ?_⟩
            walk_at "w"
            refine ⟨p, C_Board, _, rfl, upM_same, T.i_Board.cl, T.na_marks, Nat.lt_of_le_of_lt (putD_le (putD_le (Nat.zero_le 0))) (by decide), ?_⟩
            walk_at "w"
            refine ⟨p, C_Board, _, _, rfl, upM_same, T.i_Board.cl, T.na_sizes, rfl, ?_⟩
            walk_at "w"
            refine ⟨ns, rfl, by omega, fun n h => sm _ rfl n (List.mem_map.mpr ⟨n, h, rfl⟩), ?_⟩
            walk_at "w"
            refine ⟨p, C_Board, _, rfl, upM_same, T.i_Board.cl, T.na_steps, Nat.lt_of_le_of_lt (putD_le (putD_le (putD_le (Nat.zero_le 0)))) (by decide), ?_⟩
            walk_at "w"
            refine ⟨_, ?_, q⟩
            rw [upM_two, upM_two, upM_two]
            have e : bdF (.int mv) (some (ns.map D.int)) (some (ks.map D.int)) = ([("many", .int mv), ("sizes", .tup (ns.map D.int)), ("marks", .tup (ks.map D.int)), ("steps", .tup ((stepsI ns).map D.int))] : List (Str × D)) := by
              unfold bdF
              simp only [Option.getD_some, map_toI]
            rw [e]
            exact les_up l1'
          · obtain ⟨i, hi⟩ := wp_not hq
            rw [hi] at d1
            rw [d1] at q
            rw [hi]
            walk_at "w"
            refine ⟨rfl, ?_⟩
            walk_at "w"
            exact ⟨(by show 2 ≤ sizeLine; decide), M, l1', q⟩
      · obtain ⟨i, hi⟩ := ws_not hw
        have e : dueD (.int mv) oS oM = some (false, .tup [.str "sizes", .int i]) := by
          unfold dueD
          rw [if_pos hb, hi]
        rw [e] at q
        rw [hi]
        walk_at "w"
        refine ⟨rfl, ?_⟩
        walk_at "w"
        exact ⟨(by show 2 ≤ sizeLine; decide), M, .refl M, q⟩
end
end K83
set_option linter.all false
namespace K83
open PySem PySem.Spec PyProof.Rows L2 DL
local macro_rules | `(tactic| walk_at "w") => `(tactic| conv => whnf)
theorem eqv_ints : ∀ a b : List Int, PyData.eqvAll (a.map PyData.int) (b.map PyData.int) = decide (a = b)
  | [], [] => by simp [PyData.eqvAll]
  | [], y :: b => by simp [PyData.eqvAll]
  | x :: a, [] => by simp [PyData.eqvAll]
  | x :: a, y :: b => by
    have ih := eqv_ints a b
    simp only [List.map_cons, PyData.eqvAll, PyData.eqv, ih]
    by_cases h : x = y <;> by_cases h2 : a = b <;> simp [h, h2]
theorem lay_ints : ∀ a : List Int, PyData.canLayAll0 (a.map PyData.int) = true
  | [] => by simp [PyData.canLayAll0]
  | x :: a => by simp [PyData.canLayAll0, PyData.canLay0, lay_ints a]
theorem deep_ints : ∀ a : List Int, PyData.depthAll (a.map PyData.int) ≤ 1
  | [] => by simp [PyData.depthAll]
  | x :: a => by
    have := deep_ints a
    simp only [List.map_cons, PyData.depthAll, PyData.depth]
    omega
theorem shaped_tup (a : List Int) : SeqAt.shaped (.tuple (a.map PyData.int)) = true := by
  unfold SeqAt.shaped
  have h := deep_ints a
  have d : (PyData.tuple (a.map PyData.int)).depth ≤ 64 := by
    simp only [PyData.depth]
    omega
  rw [Bool.and_eq_true]
  exact ⟨by simp only [PyData.canLay0]; exact lay_ints a, decide_eq_true d⟩
theorem pd_ints {M : DHp} : ∀ a : List Int, Pds M (a.map D.int) (a.map PyData.int)
  | [] => .nil
  | x :: a => .cons (.int x) (pd_ints a)
theorem eq_tups {M : DHp} {a b : List Int} {Q : Bool → DHp → Prop} (h : Q (decide (a = b)) M) : eqD (.tup (a.map D.int)) (.tup (b.map D.int)) M Q :=
  ⟨_, _, .tup (pd_ints a), .tup (pd_ints b), shaped_tup a, shaped_tup b, by
    have e : PyData.eqv (.tuple (a.map PyData.int)) (.tuple (b.map PyData.int)) = decide (a = b) := by rw [PyData.eqv, eqv_ints]
    rw [if_neg Bool.false_ne_true, e]
    exact h⟩
/-- what a board keeps is right -/
structure BdOk (mv : Int) (ns ks : List Int) : Prop where
  l1 : 1 ≤ ns.length
  l2 : ns.length ≤ 8
  n1 : ∀ n ∈ ns, 1 ≤ n
  sm : ∀ n ∈ ns, Sm n
  pr : prodI ns ≤ 20000
  len : ks.length = (prodI ns).toNat
theorem num_bound : ∀ (ns ks : List Int) (a b : Int), ks.length = ns.length → (∀ i, i < ns.length → 0 ≤ ks.getD i 0 ∧ ks.getD i 0 < ns.getD i 0) → 0 ≤ a → a < b → 0 ≤ (ns.zip ks).foldl (fun a p => a * p.1 + p.2) a ∧ (ns.zip ks).foldl (fun a p => a * p.1 + p.2) a < ns.foldl (· * ·) b
  | [], ks, a, b, _, _, h1, h2 => by
    rw [List.zip_nil_left]
    exact ⟨h1, h2⟩
  | n :: ns, [], a, b, hl, _, _, _ => by simp at hl
  | n :: ns, k :: ks, a, b, hl, h, h1, h2 => by
    have h0 := h 0 (by simp)
    simp only [List.getD_cons_zero] at h0
    have a1 : 0 ≤ a * n := Int.mul_nonneg h1 (by omega)
    have a2 : (a + 1) * n ≤ b * n := Int.mul_le_mul_of_nonneg_right (by omega) (by omega)
    rw [Int.add_mul, Int.one_mul] at a2
    exact num_bound ns ks (a * n + k) (b * n) (by simpa using hl) (fun i hi => by
      have := h (i + 1) (by simp; omega)
      simpa using this) (by omega) (by omega)
section
variable {P₀ : Program} {w : World} {K : PySem.W.Frag} {mg : Str → Option Value} {base : Heap} {C_Board C_BoardError C_InvalidBoard C_InvalidSetting C_InvalidSize : Addr}
def BdAt (C : Addr) (M : DHp) (p : Addr) (mv : Int) (ns ks : List Int) : Prop := M p = some (.ins C [("many", .int mv), ("sizes", .tup (ns.map D.int)), ("marks", .tup (ks.map D.int)), ("steps", .tup ((stepsI ns).map D.int))])
abbrev s_Board_eq : Stmt := inClass (top 25) 1
abbrev N_Board_eq : List Str := ["self", "other"]
abbrev P_Board_eq : List Str := ["self", "other"]
theorem sc_Board_eq : FnScope N_Board_eq P_Board_eq (defScope s_Board_eq) := ⟨rfl, rfl, rfl, by decide +kernel, rfl, by decide +kernel, by decide +kernel⟩
/-- what a thing is to a board: another kind, or a board -/
def Ot (K : PySem.W.Frag) (C : Addr) (M : DHp) (d : D) (r : Option (Int × List Int × List Int)) : Prop := match r with
  | none => ∃ k, kindD M d = some k ∧ KdOk K k ∧ ∀ D, k ≠ .ins D
  | some (mv, ns, ks) => ∃ q, d = .ref q ∧ BdAt C M q mv ns ks
def eqB (mv : Int) (ns ks : List Int) : Option (Int × List Int × List Int) → Bool
  | none => false
  | some (mw, ms, ls) => decide (mv = mw) && (decide (ns = ms) && decide (ks = ls))
def sp_eq (K : PySem.W.Frag) (C_Board : Addr) : DSp := fun ds M Q _ => ∃ (p : Addr) (d : D) (mv : Int) (ns ks : List Int) (r : Option (Int × List Int × List Int)), ds = [.ref p, d] ∧ BdAt C_Board M p mv ns ks ∧ Ot K C_Board M d r ∧ Q (.bl (eqB mv ns ks r)) M
theorem ok_eq {f : Addr} {fd : FuncData} (F : Fun K "__eq__" "Board.__eq__" s_Board_eq f fd) (Z : Zs mg) (T : Tb P₀ w K mg base C_Board C_BoardError C_InvalidBoard C_InvalidSetting C_InvalidSize) : FnD P₀ w K mg base 1 f fd P_Board_eq (sp_eq K C_Board) := by
  refine fn_D F sc_Board_eq (fun ds M P PE h => ?_) (fun cdv A outer s H E ds M P PE hr tk h => ⟨_, (dss_cons (ds_if (dt_not (dt_tru (de_iso Z.isi T.g_Board T.i_Board (de_var 1)))) (dss_one (ds_ret de_bl)) dss_nil)
    (dss_one (ds_ret (de_and (de_cmp (or_eq hr.r.units) (de_fld (de_var 0)) (de_fld (de_var 1))) (de_and (de_cmp (or_eq hr.r.units) (de_fld (de_var 0)) (de_fld (de_var 1))) (de_one (de_cmp (or_eq hr.r.units) (de_fld (de_var 0)) (de_fld (de_var 1))))))))), ?_⟩)
  · obtain ⟨_, _, _, _, _, _, rfl, _⟩ := h
    rfl
  · obtain ⟨p, d, mv, ns, ks, r, rfl, hp, ho, q⟩ := h
    cases r with
    | none =>
      obtain ⟨k, hk, ok, hn⟩ := ho
      walk_at "w"
      refine ⟨k, hk, fun D e => (hn D e).elim, ?_⟩
      have e : kdIns k C_Board = false := by cases k <;> first | rfl | exact (hn _ rfl).elim
      rw [e]
      walk_at "w"
      exact Lk.of q
    | some r =>
      obtain ⟨mw, ms, ls⟩ := r
      obtain ⟨b, rfl, hb⟩ := ho
      have c := T.i_Board.cl
      walk_at "w"
      refine ⟨.ins C_Board, (by show kindO (M b) = _; rw [hb]; rfl), fun D e => by cases e; rfl, ?_⟩
      have e : kdIns (.ins C_Board) C_Board = true := by simp [kdIns]
      rw [e]
      walk_at "w"
      refine ⟨p, _, _, _, rfl, hp, c, T.na_many, rfl, ?_⟩
      walk_at "w"
      refine ⟨b, _, _, _, rfl, hb, c, T.na_many, rfl, ?_⟩
      walk_at "w"
      refine ⟨_, rfl, ifB_mk (fun h1 => ?_) (fun h1 => ?_)⟩
      · walk_at "w"
        refine ⟨p, _, _, _, rfl, hp, c, T.na_sizes, rfl, ?_⟩
        walk_at "w"
        refine ⟨b, _, _, _, rfl, hb, c, T.na_sizes, rfl, ?_⟩
        show eqD _ _ _ _
        refine eq_tups ?_
        walk_at "w"
        refine ⟨_, rfl, ifB_mk (fun h2 => ?_) (fun h2 => ?_)⟩
        · walk_at "w"
          refine ⟨p, _, _, _, rfl, hp, c, T.na_marks, rfl, ?_⟩
          walk_at "w"
          refine ⟨b, _, _, _, rfl, hb, c, T.na_marks, rfl, ?_⟩
          show eqD _ _ _ _
          refine eq_tups ?_
          exact Lk.eq q (by simp [eqB, of_decide_eq_true h1, of_decide_eq_true h2])
        · walk_at "w"
          exact Lk.eq q (by simp [eqB, of_decide_eq_true h1, of_decide_eq_false h2])
      · walk_at "w"
        exact Lk.eq q (by simp [eqB, of_decide_eq_false h1])
abbrev s_Board_len : Stmt := inClass (top 25) 2
abbrev N_Board_len : List Str := ["self"]
abbrev P_Board_len : List Str := ["self"]
theorem sc_Board_len : FnScope N_Board_len P_Board_len (defScope s_Board_len) := ⟨rfl, rfl, rfl, by decide +kernel, rfl, by decide +kernel, by decide +kernel⟩
def sp_len (C_Board : Addr) : DSp := fun ds M Q _ => ∃ (p : Addr) (mv : Int) (ns ks : List Int), ds = [.ref p] ∧ BdAt C_Board M p mv ns ks ∧ Q (.int (ns.length : Nat)) M
theorem ok_len {f : Addr} {fd : FuncData} (F : Fun K "__len__" "Board.__len__" s_Board_len f fd) (Z : Zs mg) (T : Tb P₀ w K mg base C_Board C_BoardError C_InvalidBoard C_InvalidSetting C_InvalidSize) : FnD P₀ w K mg base 1 f fd P_Board_len (sp_len C_Board) := by
  refine fn_D F sc_Board_len (fun ds M P PE h => ?_) (fun cdv A outer s H E ds M P PE hr tk h => ⟨_, (dss_one (ds_ret (de_fnB cr_len Z.len (da_cons (de_fld (de_var 0)) da_nil)))), ?_⟩)
  · obtain ⟨_, _, _, _, rfl, _⟩ := h
    rfl
  · obtain ⟨p, mv, ns, ks, rfl, hp, q⟩ := h
    walk_at "w"
    refine ⟨p, _, _, _, rfl, hp, T.i_Board.cl, T.na_sizes, rfl, ?_⟩
    refine .inl ⟨_, .tup, ?_⟩
    exact Lk.eq q (by rw [List.length_map])
abbrev s_need_setting : Stmt := top 22
abbrev N_need_setting : List Str := ["sizes", "value", "at"]
abbrev P_need_setting : List Str := ["sizes", "value"]
theorem sc_need_setting : FnScope N_need_setting P_need_setting (defScope s_need_setting) := ⟨rfl, rfl, rfl, by decide +kernel, rfl, by decide +kernel, by decide +kernel⟩
def sp_nset (K : PySem.W.Frag) (C_InvalidSetting : Addr) : DSp := fun ds M Q PE => ∃ (c d : D) (ns : List Int) (o : Option (List D)), ds = [c, d] ∧ SqD M c (ns.map D.int) ∧ Vw K M d o ∧
  match wpD ns o with
  | .non => Q (.tup (o.getD [])) M
  | e => PE ⟨C_InvalidSetting, [("at", e)]⟩ M
theorem ok_nset {f : Addr} {fd : FuncData} (Dd : Df K mg "need_setting" s_need_setting f fd P_need_setting) (Z : Zs mg) (T : Tb P₀ w K mg base C_Board C_BoardError C_InvalidBoard C_InvalidSetting C_InvalidSize) (G_wrong_place : Cal P₀ w K mg base "wrong_place" 3 (sp_wrong_place K)) : Cal P₀ w K mg base "need_setting" 4 (sp_nset K C_InvalidSetting) := by
  refine Dd.cal sc_need_setting (fun ds M P PE h => ?_) (fun cdv A outer s H E ds M P PE hr tk h => ⟨_, (dss_cons (ds_set 2 sc_need_setting.nd (de_call G_wrong_place (hr.mono (by decide)) tk (da_cons (de_var 0) (da_cons (de_var 1) da_nil))))
    (dss_cons (ds_if (dt_cmp or_isn (de_var 2) de_non) (dss_one (ds_raise T.x_InvalidSetting (hr.mono (by decide)).r tk (da_cons (de_var 2) da_nil))) dss_nil)
    (dss_one (ds_ret (de_fnT cr_tup Z.tup (da_cons (de_var 1) da_nil)))))), ?_⟩)
  · obtain ⟨_, _, _, _, rfl, _⟩ := h
    rfl
  · obtain ⟨c, d, ns, o, rfl, hc, hv, q⟩ := h
    walk_at "w"
    refine ⟨_, _, _, _, rfl, hc, hv, ?_⟩
    by_cases hq : wpD ns o = .non
    · obtain ⟨cs, rfl, hl, hcc⟩ := wp_ok hq
      rw [hq] at q ⊢
      walk_at "w"
      refine ⟨rfl, ?_⟩
      walk_at "w"
      refine ⟨_, hv.1, ?_⟩
      exact Lk.of q
    · obtain ⟨i, hi⟩ := wp_not hq
      rw [hi] at q ⊢
      walk_at "w"
      refine ⟨rfl, ?_⟩
      walk_at "w"
      exact ⟨M, .refl M, q⟩
abbrev s_Board_call : Stmt := inClass (top 25) 3
abbrev N_Board_call : List Str := ["self", "setting"]
abbrev P_Board_call : List Str := ["self", "setting"]
theorem sc_Board_call : FnScope N_Board_call P_Board_call (defScope s_Board_call) := ⟨rfl, rfl, rfl, by decide +kernel, rfl, by decide +kernel, by decide +kernel⟩
def sp_call (K : PySem.W.Frag) (C_Board C_InvalidSetting : Addr) : DSp := fun ds M Q PE => ∃ (p : Addr) (d : D) (mv : Int) (ns ks : List Int) (o : Option (List D)), ds = [.ref p, d] ∧ BdAt C_Board M p mv ns ks ∧ BdOk mv ns ks ∧ Vw K M d o ∧
  match wpD ns o with
  | .non => Q (.int (ks.getD (numI ns ((o.getD []).map toI)).toNat 0)) M
  | e => PE ⟨C_InvalidSetting, [("at", e)]⟩ M
theorem ok_call {f : Addr} {fd : FuncData} (F : Fun K "__call__" "Board.__call__" s_Board_call f fd) (Z : Zs mg) (T : Tb P₀ w K mg base C_Board C_BoardError C_InvalidBoard C_InvalidSetting C_InvalidSize)
    (G_need_setting : Cal P₀ w K mg base "need_setting" 4 (sp_nset K C_InvalidSetting)) (G_setting_number : Cal P₀ w K mg base "setting_number" 1 sp_setting_number) : FnD P₀ w K mg base 5 f fd P_Board_call (sp_call K C_Board C_InvalidSetting) := by
  refine fn_D F sc_Board_call (fun ds M P PE h => ?_) (fun cdv A outer s H E ds M P PE hr tk h => ⟨_, (dss_one (ds_ret (de_ix (de_fld (de_var 0)) (de_call G_setting_number (hr.mono (by decide)) tk (da_cons (de_fld (de_var 0)) (da_cons (de_call G_need_setting (hr.mono (by decide)) tk (da_cons (de_fld (de_var 0)) (da_cons (de_var 1) da_nil))) da_nil)))))), ?_⟩)
  · obtain ⟨_, _, _, _, _, _, rfl, _⟩ := h
    rfl
  · obtain ⟨p, d, mv, ns, ks, o, rfl, hp, ok, hv, q⟩ := h
    have c := T.i_Board.cl
    walk_at "w"
    refine ⟨p, _, _, _, rfl, hp, c, T.na_marks, rfl, ?_⟩
    walk_at "w"
    refine ⟨p, _, _, _, rfl, hp, c, T.na_sizes, rfl, ?_⟩
    walk_at "w"
    refine ⟨p, _, _, _, rfl, hp, c, T.na_sizes, rfl, ?_⟩
    walk_at "w"
    refine ⟨_, _, ns, o, rfl, .tup, hv, ?_⟩
    by_cases hq : wpD ns o = .non
    · obtain ⟨cs, rfl, hl, hc⟩ := wp_ok hq
      rw [hq] at q ⊢
      walk_at "w"
      refine ⟨_, _, ns, cs, rfl, .tup, .tup, ok.sm, ?_⟩
      have b := num_bound ns cs 0 1 hl hc (Int.le_refl _) (by decide)
      have b : 0 ≤ numI ns cs ∧ numI ns cs < prodI ns := b
      have e : ((numI ns cs).toNat : Int) = numI ns cs := Int.toNat_of_nonneg b.1
      have h3 : ks[(numI ns cs).toNat]? = some (ks.getD (numI ns cs).toNat 0) := by
        have := ok.len
        rw [List.getD_eq_getElem?_getD, List.getElem?_eq_getElem (by omega)]
        rfl
      walk_at "w"
      refine .inl ⟨_, _, .int (ks.getD (numI ns cs).toNat 0), .tup, rfl, ?_, ?_⟩
      · rw [← e]
        exact atI_nat (by rw [List.getElem?_map, e, h3]; rfl)
      · simp only [Option.getD_some, map_toI] at q
        exact Lk.of q
    · obtain ⟨i, hi⟩ := wp_not hq
      rw [hi] at q ⊢
      exact ⟨M, .refl M, q⟩
end
end K83
set_option linter.all false
namespace K83
open PySem PySem.Spec PyProof.Rows L2 DL
local macro_rules | `(tactic| walk_at "w") => `(tactic| conv => whnf)
abbrev bx (x y z : Int) : DO := .lst [.int x, .int y, .int z]
section
variable {P₀ : Program} {w : World} {K : PySem.W.Frag} {mg : Str → Option Value} {base : Heap}
def sp_box : DSp := fun ds M Q _ => ∃ (a : Addr) (k : Nat) (ns : List Int), ds = [.ref a, .int (k : Nat)] ∧ M a = some (.frz (ns.map D.int)) ∧ k < 1000 ∧ ns.length ≤ 100000 ∧ ∀ p x y z, M p = none → Q (.ref p) (upM M p (bx x y z))
def sp_take : DSp := fun ds M Q _ => ∃ (p : Addr) (n x y z : Int), ds = [.ref p, .int n] ∧ M p = some (bx x y z) ∧ 0 < n ∧ n < 1073741824 ∧ ∀ r x y z, 0 ≤ r → r < n → Q (.int r) (upM M p (bx x y z))
end
end K83
set_option linter.all false
namespace K83
open PySem PySem.Spec PyProof.Rows L2 DL
local macro_rules | `(tactic| walk_at "w") => `(tactic| conv => whnf)
theorem sq_ne {M : DHp} {p : Addr} {o : DO} {d : D} {ds : List D} (h : SqD M d ds) (n : d ≠ .ref p) : SqD (upM M p o) d ds := by
  rcases h with h | ⟨q, rfl, h⟩
  · exact .inl h
  · have n : q ≠ p := fun z => n (by rw [z])
    refine .inr ⟨q, rfl, ?_⟩
    show (if q = p then some o else M q) = _ ∨ (if q = p then some o else M q) = _
    rw [if_neg n]
    exact h
/-- what the law tells of a board -/
def dueV (m : D) (oS oM : Option (List D)) : D := match dueD m oS oM with
  | none => .non
  | some (true, x) => .tup [.str "size", x]
  | some (false, x) => .tup [.str "board", x]
section
variable {P₀ : Program} {w : World} {K : PySem.W.Frag} {mg : Str → Option Value} {base : Heap} {C_Board C_BoardError C_InvalidBoard C_InvalidSetting C_InvalidSize : Addr}
def sp_pick : DSp := fun ds M Q _ => ∃ (p : Addr) (d : D) (xs : List D) (x y z : Int), ds = [.ref p, d] ∧ M p = some (bx x y z) ∧ SqD M d xs ∧ d ≠ .ref p ∧ 0 < xs.length ∧ xs.length < 1073741824 ∧ ∀ v x y z, v ∈ xs → Q v (upM M p (bx x y z))
end
end K83
set_option linter.all false
namespace K83
open PySem PySem.Spec PyProof.Rows L2 DL
local macro_rules | `(tactic| walk_at "w") => `(tactic| conv => whnf)
section
variable {m : D} {mv : Int} {oS oM : Option (List D)} {ns : List Int}
theorem dv_many (h : isBt 2 8 m = false) : dueV m oS oM = .tup [.str "board", .str "many"] := by
  unfold dueV dueD
  rw [if_neg (by rw [h]; simp)]
theorem dv_sizes {i : Int} (h : isBt 2 8 m = true) (hi : wsD oS = .int i) : dueV m oS oM = .tup [.str "board", .tup [.str "sizes", .int i]] := by
  unfold dueV dueD
  rw [if_pos h, hi]
theorem dd_in (h : isBt 2 8 (.int mv) = true) (hw : wsD (some (ns.map D.int)) = .non) : dueD (.int mv) (some (ns.map D.int)) oM = if prodI ns ≤ 20000 then (match wpD (List.replicate (prodI ns).toNat mv) oM with
    | .non => none
    | d => some (false, .tup [.str "marks", d])) else some (true, .str "settings") := by
  unfold dueD
  rw [if_pos h, hw]
  simp only [Option.getD_some, map_toI]
  rfl
theorem dv_size (h : isBt 2 8 (.int mv) = true) (hw : wsD (some (ns.map D.int)) = .non) (hp : 20000 < prodI ns) : dueV (.int mv) (some (ns.map D.int)) oM = .tup [.str "size", .str "settings"] := by
  unfold dueV
  rw [dd_in h hw, if_neg (by omega)]
theorem dv_marks {i : Int} (h : isBt 2 8 (.int mv) = true) (hw : wsD (some (ns.map D.int)) = .non) (hp : prodI ns ≤ 20000) (hi : wpD (List.replicate (prodI ns).toNat mv) oM = .int i) : dueV (.int mv) (some (ns.map D.int)) oM = .tup [.str "board", .tup [.str "marks", .int i]] := by
  unfold dueV
  rw [dd_in h hw, if_pos hp, hi]
theorem dv_none (h : isBt 2 8 (.int mv) = true) (hw : wsD (some (ns.map D.int)) = .non) (hp : prodI ns ≤ 20000) (hi : wpD (List.replicate (prodI ns).toNat mv) oM = .non) : dueV (.int mv) (some (ns.map D.int)) oM = .non := by
  unfold dueV
  rw [dd_in h hw, if_pos hp, hi]
end
theorem wp_some {ns : List Int} {xs : List D} : wpD ns (some xs) = (if xs.length = ns.length then plD (firstN (fun i => !isB (ns.getD i 0) (xs.getD i .non)) ns.length) else .int (-1)) := rfl
theorem ws_some {xs : List D} : wsD (some xs) = (if 1 ≤ xs.length ∧ xs.length ≤ 8 then plD (firstN (fun i => !isP (xs.getD i .non)) xs.length) else .int (-1)) := rfl
section
variable {P₀ : Program} {w : World} {K : PySem.W.Frag} {mg : Str → Option Value} {base : Heap} {C_Board C_BoardError C_InvalidBoard C_InvalidSetting C_InvalidSize : Addr}
end
end K83
set_option linter.all false
namespace K83
open PySem PySem.Spec PyProof.Rows L2 DL
local macro_rules | `(tactic| walk_at "w") => `(tactic| conv => whnf)
/-- what is called beside the program's own defs -/
structure Bo (P₀ : Program) (w : World) (K : PySem.W.Frag) (mg : Str → Option Value) (base : Heap) (C_Board C_BoardError C_InvalidBoard C_InvalidSetting C_InvalidSize : Addr) : Prop extends Tb P₀ w K mg base C_Board C_BoardError C_InvalidBoard C_InvalidSetting C_InvalidSize where
  k_Board : CalK P₀ w K mg base "Board" C_Board 5 (sp_init K C_Board C_InvalidBoard C_InvalidSize)
  kk_Board : CalKW P₀ w K mg base "Board" C_Board ["marks", "sizes", "many"] (fun us ws => match ws with
    | [a, b, c] => us ++ [c, b, a]
    | _ => us ++ ws) 5 (sp_init K C_Board C_InvalidBoard C_InvalidSize)
  q_Board : ClsQ K C_Board
  eq : CalM P₀ w K mg base C_Board "__eq__" 1 (sp_eq K C_Board)
  ne : CalE P₀ w K mg base C_Board 1 (sp_eq K C_Board)
  len : CalM P₀ w K mg base C_Board "__len__" 1 (sp_len C_Board)
  call : CalM P₀ w K mg base C_Board "__call__" 5 (sp_call K C_Board C_InvalidSetting)
  callfn : ∀ g, Meth K C_Board "__call__" g → PySem.W.fnIn K g = true
section
variable {P₀ : Program} {w : World} {K : PySem.W.Frag} {mg : Str → Option Value} {base : Heap} {C_Board C_BoardError C_InvalidBoard C_InvalidSetting C_InvalidSize : Addr}
/-- a board that is built, or what is raised -/
theorem dd_ok {m : D} {oS oM : Option (List D)} (h : dueD m oS oM = none) : ∃ (mv : Int) (ns ks : List Int), m = .int mv ∧ oS = some (ns.map D.int) ∧ oM = some (ks.map D.int) ∧ 2 ≤ mv ∧ mv ≤ 8 ∧ 1 ≤ ns.length ∧ ns.length ≤ 8 ∧ (∀ n ∈ ns, 1 ≤ n) ∧ prodI ns ≤ 20000 ∧ ks.length = (prodI ns).toNat := by
  by_cases hb : isBt 2 8 m = true
  · obtain ⟨mv, rfl⟩ : ∃ i, m = .int i := by cases m <;> first | exact ⟨_, rfl⟩ | cases hb
    have hb2 : 2 ≤ mv ∧ mv ≤ 8 := by simpa [isBt] using hb
    by_cases hw : wsD oS = .non
    · obtain ⟨ns, rfl, l1, l2, hn⟩ := ws_ok hw
      rw [dd_in hb hw] at h
      by_cases hp : prodI ns ≤ 20000
      · rw [if_pos hp] at h
        by_cases hq : wpD (List.replicate (prodI ns).toNat mv) oM = .non
        · obtain ⟨ks, rfl, l3, _⟩ := wp_ok hq
          exact ⟨mv, ns, ks, rfl, rfl, rfl, hb2.1, hb2.2, l1, l2, hn, hp, by rw [l3, List.length_replicate]⟩
        · obtain ⟨i, hi⟩ := wp_not hq
          rw [hi] at h
          cases h
      · rw [if_neg hp] at h
        cases h
    · obtain ⟨i, hi⟩ := ws_not hw
      unfold dueD at h
      rw [if_pos hb, hi] at h
      cases h
  · unfold dueD at h
    rw [if_neg hb] at h
    cases h
end
end K83
set_option linter.all false
namespace K83
open PySem PySem.Spec PyProof.Rows L2 DL
local macro_rules | `(tactic| walk_at "w") => `(tactic| conv => whnf)
def El : D → Prop
  | .int i => Sm i
  | .bl _ => True
  | .non => True
  | .str _ => True
  | .tup ds => ds = [.int 0]
  | _ => False
theorem El.kn {K : PySem.W.Frag} {M : DHp} {d : D} (h : El d) : Kn K M d := by
  cases d <;> first | exact ⟨_, rfl, trivial⟩ | cases h
def Mid (n : Int) : Prop := -1000000 ≤ n ∧ n ≤ 1000000
theorem ix_nat {n j : Nat} (h : j < n) : ixN n (j : Int) = some j := by
  unfold ixN
  rw [if_pos (by omega), if_pos (by omega), Int.toNat_natCast]
theorem les_bx {M N : DHp} {p : Addr} {b b' : DO} (l : Les (upM M p b) N) : Les (upM M p b') (upM N p b') := by
  have := les_up (p := p) (o := b') l
  rw [upM_two] at this
  exact this
theorem les_free {M N : DHp} {q : Addr} {o : DO} (l : Les M N) (h : M q = none) : Les M (upM N q o) := fun a u e => by
  have n : a ≠ q := fun z => by rw [z, h] at e; cases e
  show (if a = q then some o else N a) = some u
  rw [if_neg n]
  exact l _ _ e
theorem Les.none {M N : DHp} {q : Addr} (l : Les M N) (h : N q = none) : M q = none := by
  cases e : M q with
  | none => rfl
  | some o => rw [l _ _ e] at h; cases h
theorem bx_free {M : DHp} {p q : Addr} {b : DO} (h : upM M p b q = none) : q ≠ p ∧ M q = none := by
  have h : (if q = p then some b else M q) = none := h
  split at h
  · cases h
  · rename_i n
    exact ⟨n, h⟩
theorem mem_cut {xs : List D} {lo hi : Option Int} {x : D} (h : x ∈ DL.cutD xs lo hi) : x ∈ xs := List.mem_of_mem_drop (List.mem_of_mem_take h)
theorem len_cut {xs : List D} {lo hi : Option Int} : (DL.cutD xs lo hi).length ≤ xs.length := by
  unfold DL.cutD
  rw [List.length_take, List.length_drop]
  omega
section
variable {P₀ : Program} {w : World} {K : PySem.W.Frag} {mg : Str → Option Value} {base : Heap}
end
end K83
set_option linter.all false
namespace K83
open PySem PySem.Spec PyProof.Rows L2 DL
local macro_rules | `(tactic| walk_at "w") => `(tactic| conv => whnf)
/-- what a spoilt board is -/
def Spo (K : PySem.W.Frag) (M : DHp) (m s k : D) : Prop := Kn K M m ∧ ∃ oS oM, Vw K M s oS ∧ (∀ xs, oS = some xs → ∀ n, D.int n ∈ xs → Sm n) ∧ Vw K M k oM
theorem Spo.les {K : PySem.W.Frag} {M M' : DHp} {m s k : D} (l : Les M M') (h : Spo K M m s k) : Spo K M' m s k := let ⟨a, oS, oM, b, c, d⟩ := h; ⟨a.les l, oS, oM, b.les l, c, d.les l⟩
theorem vw_el {K : PySem.W.Frag} {M : DHp} {q : Addr} {xs : List D} (h : M q = some (.lst xs)) (e : ∀ x ∈ xs, El x) : Vw K M (.ref q) (some xs) := ⟨.ref h, fun x hx => (e x hx).kn⟩
theorem el_ints {ns : List Int} (h : ∀ n ∈ ns, Sm n) : ∀ x ∈ ns.map D.int, El x := fun x hx => by
  obtain ⟨n, hn, rfl⟩ := List.mem_map.mp hx
  exact h n hn
theorem el_sm {xs : List D} (h : ∀ x ∈ xs, El x) : ∀ ys, some xs = some ys → ∀ n, D.int n ∈ ys → Sm n := fun ys e n hn => by
  cases e
  exact h _ hn
theorem kn_bx {K : PySem.W.Frag} {N : DHp} {p : Addr} {l l' : List D} {v : D} (h : N p = some (.lst l)) (k : Kn K N v) : Kn K (upM N p (.lst l')) v := by
  obtain ⟨kd, hk, ok⟩ := k
  refine ⟨kd, ?_, ok⟩
  cases v with
  | ref a =>
    have hk : kindO (N a) = some kd := hk
    show kindO (if a = p then some (.lst l') else N a) = some kd
    by_cases e : a = p
    · subst e
      rw [h] at hk
      rw [if_pos rfl]
      exact hk
    · rw [if_neg e]
      exact hk
  | _ => exact hk
theorem ne_of {N N' : DHp} {e p : Addr} {o : DO} (l : Les N N') (h : N p = some o) (f : N' e = none) : e ≠ p := fun z => by
  rw [z, l _ _ h] at f
  cases f
section
variable {P₀ : Program} {w : World} {K : PySem.W.Frag} {mg : Str → Option Value} {base : Heap}
end
end K83
set_option linter.all false
namespace DL
theorem room70 {k : Nat} {A : PySem.Around} (hr : RoomG k A) : A.units + 70 < PySem.cLine := by have := hr.r.un; omega
end DL
namespace K83
open PySem PySem.Spec PyProof.Rows L2 DL
local macro_rules | `(tactic| walk_at "w") => `(tactic| conv => whnf)
/-- data whose text is short -/
structure Gd (n d : Nat) (x : PyData) : Prop where
  lay : x.canLay0 = true
  dp : x.depth ≤ d
  w : x.weight ≤ n
  sh : x.intsShort 13 = true
  sw : x.showable = true
structure Gds (n d : Nat) (xs : List PyData) : Prop where
  lay : PyData.canLayAll0 xs = true
  dp : PyData.depthAll xs ≤ d
  w : PyData.weightAll xs ≤ n
  sh : PyData.intsShortAll 13 xs = true
  sw : PyData.showableAll xs = true
theorem gds_nil {d : Nat} : Gds 0 d [] := ⟨by simp [PyData.canLayAll0], by simp [PyData.depthAll], by simp [PyData.weightAll], by simp [PyData.intsShortAll], by simp [PyData.showableAll]⟩
theorem gds_cons {n m d : Nat} {x : PyData} {xs : List PyData} (a : Gd n d x) (b : Gds m d xs) : Gds (n + 1 + m) d (x :: xs) :=
  ⟨by simp [PyData.canLayAll0, a.lay, b.lay], by simp only [PyData.depthAll]; have := a.dp; have := b.dp; omega, by simp only [PyData.weightAll]; have := a.w; have := b.w; omega, by simp [PyData.intsShortAll, a.sh, b.sh], by simp [PyData.showableAll, a.sw, b.sw]⟩
theorem gd_tup {n d : Nat} {xs : List PyData} (a : Gds n d xs) : Gd n (d + 1) (.tuple xs) :=
  ⟨by simp only [PyData.canLay0]; exact a.lay, by simp only [PyData.depth]; have := a.dp; omega, by simp only [PyData.weight]; exact a.w, by simp only [PyData.intsShort]; exact a.sh, by simp only [PyData.showable]; exact a.sw⟩
theorem Gd.up {n m d e : Nat} {x : PyData} (a : Gd n d x) (h : n ≤ m) (k : d ≤ e) : Gd m e x := ⟨a.lay, Nat.le_trans a.dp k, Nat.le_trans a.w h, a.sh, a.sw⟩
def Lo (i : Int) : Prop := -1 ≤ i ∧ i < 1073741824
theorem gd_int {i : Int} (h : Lo i) : Gd 30 0 (.int i) := by
  unfold Lo at h
  have e : i.natAbs < 2 ^ 30 := by omega
  refine ⟨by simp only [PyData.canLay0], by simp only [PyData.depth]; omega, ?_, ?_, ?_⟩
  · simp only [PyData.weight]
    split
    · omega
    · rename_i q
      have : i.natAbs ≠ 0 := by simpa using q
      have := (Nat.log2_lt this).mpr e
      omega
  · simp only [PyData.intsShort, PyData.shown]
    have := int_text_length_le10 (a := i) (k := 10) (by decide) (by omega)
    have q : ((toString i : String) : Str).length = (toString i).length := PySem.ofString_length _
    have : ((toString i : String) : Str).length ≤ 13 := by omega
    exact decide_eq_true this
  · simp only [PyData.showable]
    by_cases q : i.natAbs = 0
    · rw [q]
      exact decide_eq_true (by decide)
    · have := (Nat.log2_lt q).mpr e
      exact decide_eq_true (by omega)
theorem gds_ints {b : Nat} : ∀ {ns : List Int}, (∀ n ∈ ns, Lo n) → ns.length ≤ b → Gds (31 * b) 0 (ns.map PyData.int)
  | [], _, _ => ⟨by simp [PyData.canLayAll0], by simp [PyData.depthAll], by simp [PyData.weightAll], by simp [PyData.intsShortAll], by simp [PyData.showableAll]⟩
  | n :: ns, h, l => by
    have l : ns.length + 1 ≤ b := l
    have a := gds_cons (gd_int (h n List.mem_cons_self)) (gds_ints (b := b - 1) (fun m hm => h m (List.mem_cons_of_mem _ hm)) (by omega))
    exact ⟨a.lay, a.dp, Nat.le_trans a.w (by omega), a.sh, a.sw⟩
theorem gd_str {x : Str} {n : Nat} (h : PyData.strOk x = true) (l : x.cps.size ≤ n) : Gd n 0 (.str x) :=
  ⟨by simp only [PyData.canLay0]; exact h, by simp only [PyData.depth]; omega, by simp only [PyData.weight]; exact l, by simp only [PyData.intsShort], by simp only [PyData.showable]⟩
theorem gd_none : Gd 0 0 .none := ⟨by simp only [PyData.canLay0], by simp only [PyData.depth]; omega, by simp only [PyData.weight]; omega, by simp only [PyData.intsShort], by simp only [PyData.showable]⟩
theorem Gd.rpr {n d : Nat} {x : PyData} {v : D} {M : DHp} {Q : DK} (g : Gd n d x) (h1 : n ≤ 1048576) (h2 : d ≤ 64) (p : Pd M v x) (q : Q (.str x.shown) M) : rprD [v] M Q := by
  have l : PyData.layable0 x = true := by
    unfold PyData.layable0
    rw [Bool.and_eq_true, Bool.and_eq_true]
    exact ⟨⟨g.lay, decide_eq_true (Nat.le_trans g.dp h2)⟩, decide_eq_true (Nat.le_trans g.w h1)⟩
  have s := shown_le13 l g.sh
  exact ⟨x, p, g.sw, PyData.hasDict_of_canLay x g.lay, Nat.le_trans g.dp h2, by rw [sizeLine_eq]; omega, q⟩
theorem Gd.four {n d : Nat} {x : PyData} (g : Gd n d x) (h1 : n ≤ 1048576) (h2 : d ≤ 64) : x.showable = true ∧ x.hasDict = false ∧ x.depth ≤ 64 ∧ x.shown.length + 64 ≤ sizeLine := by
  have l : PyData.layable0 x = true := by
    unfold PyData.layable0
    rw [Bool.and_eq_true, Bool.and_eq_true]
    exact ⟨⟨g.lay, decide_eq_true (Nat.le_trans g.dp h2)⟩, decide_eq_true (Nat.le_trans g.w h1)⟩
  have s := shown_le13 l g.sh
  exact ⟨g.sw, PyData.hasDict_of_canLay x g.lay, Nat.le_trans g.dp h2, by rw [sizeLine_eq]; omega⟩
theorem vw_bx {K : PySem.W.Frag} {N : DHp} {p : Addr} {l l' : List D} {v : D} {o : Option (List D)} (h : N p = some (.lst l)) (n : v ≠ .ref p) (k : Vw K N v o) : Vw K (upM N p (.lst l')) v o := by
  cases o with
  | none =>
    obtain ⟨kd, hk, ok, e⟩ := k
    refine ⟨kd, ?_, ok, e⟩
    cases v with
    | ref a =>
      have hk : kindO (N a) = some kd := hk
      have : a ≠ p := fun z => n (by rw [z])
      show kindO (if a = p then some (.lst l') else N a) = some kd
      rw [if_neg this]
      exact hk
    | _ => exact hk
  | some xs => exact ⟨sq_ne k.1 n, fun x hx => kn_bx h (k.2 x hx)⟩
theorem wp_lo {ns : List Int} {o : Option (List D)} {i : Int} (h : wpD ns o = .int i) (l : ns.length ≤ 100000) : Lo i := by
  unfold Lo
  cases o with
  | none => cases h; omega
  | some xs =>
    rw [wp_some] at h
    split at h
    · cases e : firstN (fun i => !isB (ns.getD i 0) (xs.getD i .non)) ns.length with
      | none => rw [e] at h; cases h
      | some j =>
        rw [e] at h
        cases h
        have : ∀ (p : Nat → Bool) (n j : Nat), firstN p n = some j → j < n := fun p n => by
          induction n with
          | zero => intro j e; cases e
          | succ n ih =>
            intro j e
            unfold firstN at e
            split at e
            · rename_i q
              cases e
              have := ih _ q
              omega
            · split at e
              · cases e; omega
              · cases e
        have := this _ _ _ e
        omega
    · cases h; omega
section
variable {P₀ : Program} {w : World} {K : PySem.W.Frag} {mg : Str → Option Value} {base : Heap} {C_Board C_BoardError C_InvalidBoard C_InvalidSetting C_InvalidSize : Addr}
theorem sq_uni {M : DHp} {c : D} {xs ys : List D} (h : SqD M c xs) (g : SqD M c ys) : xs = ys := by
  rcases h with rfl | ⟨q, rfl, h⟩
  · rcases g with g | ⟨_, g, _⟩
    · cases g; rfl
    · cases g
  · rcases g with g | ⟨_, e, g⟩
    · cases g
    · cases e
      rcases h with h | h <;> rcases g with g | g <;> rw [h] at g <;> cases g <;> rfl
end
end K83
set_option linter.all false
namespace K83
open PySem PySem.Spec PyProof.Rows L2 DL
local macro_rules | `(tactic| walk_at "w") => `(tactic| conv => whnf)
/-- numbers of which a board is built -/
structure BdF (mv : Int) (ns ks : List Int) : Prop extends BdOk mv ns ks where
  m1 : 2 ≤ mv
  m2 : mv ≤ 8
  rg : ∀ k ∈ ks, 0 ≤ k ∧ k < mv
theorem firstN_no {p : Nat → Bool} : ∀ {n : Nat}, (∀ i, i < n → p i = false) → firstN p n = none
  | 0, _ => rfl
  | n + 1, h => firstN_step (firstN_no fun i hi => h i (by omega)) (h n (by omega))
theorem dd_none {mv : Int} {ns ks : List Int} (b : BdF mv ns ks) : dueD (.int mv) (some (ns.map D.int)) (some (ks.map D.int)) = none := by
  have hb : isBt 2 8 (.int mv) = true := by simp [isBt, b.m1, b.m2]
  have hw : wsD (some (ns.map D.int)) = .non := by
    rw [ws_some, if_pos ⟨by simpa using b.l1, by simpa using b.l2⟩, firstN_no fun i hi => ?_]
    · rfl
    · have hi : i < ns.length := by simpa using hi
      have e : (ns.map D.int).getD i .non = .int ns[i] := by
        rw [List.getD_eq_getElem?_getD, List.getElem?_map, List.getElem?_eq_getElem hi]
        rfl
      have := b.n1 ns[i] (List.getElem_mem hi)
      rw [e]
      simp [isP, this]
  rw [dd_in hb hw, if_pos b.pr]
  have hq : wpD (List.replicate (prodI ns).toNat mv) (some (ks.map D.int)) = .non := by
    rw [wp_some, List.length_replicate, List.length_map, if_pos b.len, firstN_no fun i hi => ?_]
    · rfl
    · have hk : i < ks.length := by rw [b.len]; exact hi
      have e : (ks.map D.int).getD i .non = .int ks[i] := by
        rw [List.getD_eq_getElem?_getD, List.getElem?_map, List.getElem?_eq_getElem hk]
        rfl
      have e1 : (List.replicate (prodI ns).toNat mv).getD i 0 = mv := by
        rw [List.getD_eq_getElem?_getD, List.getElem?_replicate, if_pos hi]
        rfl
      have := b.rg ks[i] (List.getElem_mem hk)
      rw [e, e1]
      simp [isB, this]
  rw [hq]
section
variable {P₀ : Program} {w : World} {K : PySem.W.Frag} {mg : Str → Option Value} {base : Heap} {C_Board C_BoardError C_InvalidBoard C_InvalidSetting C_InvalidSize : Addr}
theorem mk_ok {N : DHp} {q : Addr} {mv : Int} {ns ks : List Int} {sz mk : D} {Q : DK} {PE : DXK} (b : BdF mv ns ks) (hq : N q = none) (hs : Vw K N sz (some (ns.map D.int))) (hm : Vw K N mk (some (ks.map D.int)))
    (h : ∀ N', Les N N' → BdAt C_Board N' q mv ns ks → Q .non N') : sp_init K C_Board C_InvalidBoard C_InvalidSize [.ref q, .int mv, sz, mk] (upM N q (.ins C_Board [])) Q PE := by
  have l := les_new (o := .ins C_Board []) hq
  refine ⟨q, .int mv, sz, mk, _, _, rfl, upM_same, ⟨.int, rfl, trivial⟩, hs.les l, hm.les l, fun xs e n hn => ?_, ?_⟩
  · cases e
    obtain ⟨m, hm, e⟩ := List.mem_map.mp hn
    cases e
    exact b.sm _ hm
  · rw [dd_none b, upM_two]
    have e : bdF (.int mv) (some (ns.map D.int)) (some (ks.map D.int)) = ([("many", .int mv), ("sizes", .tup (ns.map D.int)), ("marks", .tup (ks.map D.int)), ("steps", .tup ((stepsI ns).map D.int))] : List (Str × D)) := by
      unfold bdF
      simp only [Option.getD_some, map_toI]
    rw [e]
    exact h _ (les_new hq) upM_same
theorem eq_ok {N : DHp} {p : Addr} {mv : Int} {ns ks : List Int} {d : D} {r : Option (Int × List Int × List Int)} {Q : Bool → DHp → Prop} (hp : BdAt C_Board N p mv ns ks) (ho : Ot K C_Board N d r) (h : Q (eqB mv ns ks r) N) : eqO C_Board (sp_eq K C_Board) (.ref p) d N Q := by
  refine .inr ⟨p, _, rfl, hp, ?_, p, d, mv, ns, ks, r, rfl, hp, ho, _, rfl, h⟩
  cases r with
  | none =>
    obtain ⟨k, hk, _, hn⟩ := ho
    exact ⟨k, hk, fun D e => (hn D e).elim⟩
  | some r =>
    obtain ⟨mw, ms, ls⟩ := r
    obtain ⟨q, rfl, hq⟩ := ho
    exact ⟨.ins C_Board, (by show kindO (N q) = _; rw [hq]; rfl), fun D e => by cases e; rfl⟩
theorem ne_ok {N : DHp} {p q : Addr} {mv mw : Int} {ns ks ms ls : List Int} {Q : Bool → DHp → Prop} (hp : BdAt C_Board N p mv ns ks) (hq : BdAt C_Board N q mw ms ls) (h : Q (!eqB mv ns ks (some (mw, ms, ls))) N) : neO C_Board (sp_eq K C_Board) (.ref p) (.ref q) N Q :=
  .inr ⟨p, q, _, _, rfl, rfl, hp, hq, p, .ref q, mv, ns, ks, some (mw, ms, ls), rfl, hp, ⟨q, rfl, hq⟩, _, rfl, h⟩
theorem eqB_self (mv : Int) (ns ks : List Int) : eqB mv ns ks (some (mv, ns, ks)) = true := by simp [eqB]
end
end K83
set_option linter.all false
namespace K83
open PySem PySem.Spec PyProof.Rows L2 DL
local macro_rules | `(tactic| walk_at "w") => `(tactic| conv => whnf)
theorem prod_fold : ∀ (ns : List Int) (a : Int), ns.foldl (· * ·) a = a * prodI ns
  | [], a => by simp [prodI]
  | n :: ns, a => by
    have h := prod_fold ns (a * n)
    have h2 := prod_fold ns (1 * n)
    show ns.foldl (· * ·) (a * n) = a * ns.foldl (· * ·) (1 * n)
    rw [h, h2, Int.one_mul, Int.mul_assoc]
theorem prod_cons (n : Int) (ns : List Int) : prodI (n :: ns) = n * prodI ns := by
  show ns.foldl (· * ·) (1 * n) = _
  rw [prod_fold, Int.one_mul]
theorem prod_drop {ns : List Int} (h : ∀ n ∈ ns, 1 ≤ n) : ∀ k, 1 ≤ prodI (ns.drop k) ∧ prodI (ns.drop k) ≤ prodI ns := by
  induction ns with
  | nil => intro k; rw [List.drop_nil]; exact ⟨by decide, Int.le_refl _⟩
  | cons n ns ih =>
    intro k
    have h1 := h n List.mem_cons_self
    have hr : ∀ m ∈ ns, 1 ≤ m := fun m hm => h m (List.mem_cons_of_mem _ hm)
    have pr := prod_pos hr
    cases k with
    | zero => exact ⟨prod_pos h, Int.le_refl _⟩
    | succ k =>
      obtain ⟨a, b⟩ := ih hr k
      rw [List.drop_succ_cons, prod_cons]
      have : 1 * prodI ns ≤ n * prodI ns := Int.mul_le_mul_of_nonneg_right h1 (by omega)
      exact ⟨a, by omega⟩
theorem prod_app (xs ys : List Int) : prodI (xs ++ ys) = prodI xs * prodI ys := by
  induction xs with
  | nil => simp [prodI]
  | cons x xs ih => rw [List.cons_append, prod_cons, prod_cons, ih, Int.mul_assoc]
theorem prod_take {ns : List Int} (h : ∀ n ∈ ns, 1 ≤ n) (j : Nat) : prodI (ns.take j) ≤ prodI ns := by
  have e : prodI ns = prodI (ns.take j) * prodI (ns.drop j) := by rw [← prod_app, List.take_append_drop]
  have a := prod_pos (ns := ns.take j) fun n hn => h n (List.mem_of_mem_take hn)
  have b := (prod_drop h j).1
  have c : prodI (ns.take j) * 1 ≤ prodI (ns.take j) * prodI (ns.drop j) := Int.mul_le_mul_of_nonneg_left b (by omega)
  omega
theorem upM_self {M : DHp} {p : Addr} {o : DO} (h : M p = some o) : upM M p o = M := by
  funext c
  unfold upM
  by_cases q : c = p
  · rw [if_pos q, q, h]
  · rw [if_neg q]
theorem up_ne {M : DHp} {p q : Addr} {o u : DO} (h : M p = some u) (n : p ≠ q) : upM M q o p = some u := by
  show (if p = q then _ else M p) = _
  rw [if_neg n]
  exact h
abbrev natD (ns : List Nat) : List D := ns.map fun i => D.int (i : Nat)
theorem nat_at {ns : List Nat} {i : Nat} {x : D} (h : (natD ns)[i]? = some x) : ∃ n, ns[i]? = some n ∧ x = D.int (n : Nat) := by
  unfold natD at h
  rw [List.getElem?_map] at h
  obtain ⟨n, a, b⟩ := Option.map_eq_some_iff.mp h
  exact ⟨n, a, b.symm⟩
theorem ints_getD {ns : List Int} {i : Nat} (h : i < ns.length) : (ns.map D.int)[i]? = some (.int (ns.getD i 0)) := by
  rw [List.getElem?_map, List.getD_eq_getElem?_getD, List.getElem?_eq_getElem h]
  rfl
/-- all settings of sizes, in order -/
def setR (rows : List (List Int)) (n : Int) : List (List Int) := rows.flatMap fun r => (List.range n.toNat).map fun (c : Nat) => r ++ [(c : Int)]
def setS (ns : List Int) : List (List Int) := ns.foldl setR [[]]
theorem set_len0 : ∀ (ns : List Int) (rows : List (List Int)) (k : Nat), (∀ r ∈ rows, r.length = k) → ∀ r ∈ ns.foldl setR rows, r.length = k + ns.length
  | [], rows, k, h, r, hr => h r hr
  | n :: ns, rows, k, h, r, hr => by
    have := set_len0 ns (setR rows n) (k + 1) (fun r hr => by
      unfold setR at hr
      obtain ⟨a, h1, h2⟩ := List.mem_flatMap.mp hr
      obtain ⟨c, _, rfl⟩ := List.mem_map.mp h2
      rw [List.length_append, h a h1]
      rfl) r hr
    rw [this, List.length_cons]
    omega
theorem set_len (ns : List Int) (r : List Int) (h : r ∈ setS ns) : r.length = ns.length := by
  have := set_len0 ns [[]] 0 (fun r hr => by rw [List.mem_singleton.mp hr]; rfl) r h
  omega
abbrev tpD (r : List Int) : D := .tup (r.map D.int)
theorem setS_app (ns : List Int) (n : Int) : setS (ns ++ [n]) = setR (setS ns) n := by
  unfold setS
  rw [List.foldl_append]
  rfl
theorem numI_app {ns r : List Int} (n c : Int) (h : r.length = ns.length) : numI (ns ++ [n]) (r ++ [c]) = numI ns r * n + c := by
  unfold numI
  rw [List.zip_append h.symm, List.foldl_append]
  rfl
theorem mem_setR {rows : List (List Int)} {n : Int} {q : List Int} : q ∈ setR rows n ↔ ∃ r ∈ rows, ∃ c : Int, 0 ≤ c ∧ c < n ∧ q = r ++ [c] := by
  unfold setR
  rw [List.mem_flatMap]
  constructor
  · rintro ⟨r, hr, h⟩
    obtain ⟨c, hc, rfl⟩ := List.mem_map.mp h
    have := List.mem_range.mp hc
    exact ⟨r, hr, c, by omega, by omega, rfl⟩
  · rintro ⟨r, hr, c, h1, h2, rfl⟩
    exact ⟨r, hr, List.mem_map.mpr ⟨c.toNat, List.mem_range.mpr (by omega), by rw [Int.toNat_of_nonneg h1]⟩⟩
/-- a setting of sizes -/
def IsS (ns r : List Int) : Prop := r.length = ns.length ∧ ∀ i, i < ns.length → 0 ≤ r.getD i 0 ∧ r.getD i 0 < ns.getD i 0
theorem rev_ind {α : Type} {P : List α → Prop} (h0 : P []) (h1 : ∀ l a, P l → P (l ++ [a])) (l : List α) : P l := by
  have : ∀ l : List α, P l.reverse := fun l => by
    induction l with
    | nil => exact h0
    | cons a l ih => rw [List.reverse_cons]; exact h1 _ _ ih
  rw [← List.reverse_reverse l]
  exact this _
theorem getD_app_l {α : Type} {l l' : List α} {i : Nat} {d : α} (h : i < l.length) : (l ++ l').getD i d = l.getD i d := by
  rw [List.getD_eq_getElem?_getD, List.getElem?_append_left h, ← List.getD_eq_getElem?_getD]
theorem getD_app_r {α : Type} {l : List α} {a d : α} : (l ++ [a]).getD l.length d = a := by
  rw [List.getD_eq_getElem?_getD, List.getElem?_append_right (Nat.le_refl _), Nat.sub_self]
  rfl
theorem split_last {α : Type} {l : List α} {n : Nat} (h : l.length = n + 1) : ∃ q a, l = q ++ [a] ∧ q.length = n := by
  refine ⟨l.take n, l[n]'(by omega), ?_, by rw [List.length_take]; omega⟩
  have e : l.take (n + 1) = l := List.take_of_length_le (by omega)
  have e2 := List.take_succ_eq_append_getElem (l := l) (i := n) (by omega)
  rw [← e2, e]
theorem mem_setS {ns : List Int} : ∀ {r : List Int}, r ∈ setS ns ↔ IsS ns r := by
  refine rev_ind (P := fun ns => ∀ {r : List Int}, r ∈ setS ns ↔ IsS ns r) ?_ ?_ ns
  · intro r
    constructor
    · intro h
      rw [List.mem_singleton.mp h]
      exact ⟨rfl, fun i h => absurd h (Nat.not_lt_zero _)⟩
    · intro h
      have := List.length_eq_zero_iff.mp h.1
      rw [this]
      exact List.mem_singleton.mpr rfl
  · intro ns n ih r
    rw [setS_app, mem_setR]
    constructor
    · rintro ⟨q, hq, c, c1, c2, rfl⟩
      obtain ⟨l, h⟩ := ih.mp hq
      refine ⟨by simp [l], fun i hi => ?_⟩
      rw [List.length_append, List.length_singleton] at hi
      by_cases e : i < ns.length
      · rw [getD_app_l (by omega), getD_app_l e]
        exact h i e
      · have e : i = ns.length := by omega
        subst e
        rw [getD_app_r, ← l, getD_app_r]
        exact ⟨c1, c2⟩
    · rintro ⟨l, h⟩
      rw [List.length_append, List.length_singleton] at l h
      obtain ⟨q, c, rfl, lq⟩ := split_last l
      have hl := h ns.length (by omega)
      rw [getD_app_r, ← lq, getD_app_r] at hl
      refine ⟨q, ih.mpr ⟨lq, fun i hi => ?_⟩, c, hl.1, hl.2, rfl⟩
      have := h i (by omega)
      rw [getD_app_l (by omega), getD_app_l hi] at this
      exact this
theorem flat_congr {α β : Type} {l : List α} {f g : α → List β} (h : ∀ a ∈ l, f a = g a) : l.flatMap f = l.flatMap g := by
  rw [List.flatMap_def, List.flatMap_def, List.map_congr_left h]
theorem range_mul (P n : Nat) : (List.range P).flatMap (fun m => (List.range n).map fun c => m * n + c) = List.range (P * n) := by
  induction P with
  | zero => simp
  | succ P ih =>
    rw [List.range_succ, List.flatMap_append, ih, Nat.succ_mul, List.range_add]
    simp
theorem num_all (ns : List Int) : (∀ n ∈ ns, 1 ≤ n) → (setS ns).map (numI ns) = (List.range (prodI ns).toNat).map fun (j : Nat) => (j : Int) := by
  refine rev_ind (P := fun ns => (∀ n ∈ ns, 1 ≤ n) → (setS ns).map (numI ns) = (List.range (prodI ns).toNat).map fun (j : Nat) => (j : Int)) ?_ ?_ ns
  · intro _; rfl
  · intro ns n ih h1
    have hn : 1 ≤ n := h1 n (by simp)
    have hs : ∀ m ∈ ns, 1 ≤ m := fun m hm => h1 m (List.mem_append_left _ hm)
    have ih := ih hs
    have pp := prod_pos hs
    obtain ⟨t, rfl⟩ : ∃ t : Nat, n = (t : Nat) := ⟨n.toNat, by omega⟩
    obtain ⟨P, hP⟩ : ∃ P : Nat, prodI ns = (P : Nat) := ⟨(prodI ns).toNat, by omega⟩
    rw [hP, Int.toNat_natCast] at ih
    rw [setS_app, prod_app, hP]
    have e1 : prodI [(t : Int)] = t := by simp [prodI]
    rw [e1, show ((P : Int) * (t : Int)).toNat = P * t from by rw [← Int.natCast_mul, Int.toNat_natCast], ← range_mul, List.map_flatMap]
    unfold setR
    rw [List.map_flatMap, Int.toNat_natCast]
    have e2 : ∀ q ∈ setS ns, ((List.range t).map fun (c : Nat) => q ++ [(c : Int)]).map (numI (ns ++ [(t : Int)])) = (List.range t).map fun (c : Nat) => numI ns q * t + c := fun q hq => by
      rw [List.map_map]
      refine List.map_congr_left fun c _ => ?_
      exact numI_app _ _ (mem_setS.mp hq).1
    have e3 : (setS ns).flatMap (fun q => ((List.range t).map fun (c : Nat) => q ++ [(c : Int)]).map (numI (ns ++ [(t : Int)]))) = ((setS ns).map (numI ns)).flatMap fun m => (List.range t).map fun (c : Nat) => m * (t : Int) + (c : Int) := by
      rw [List.flatMap_map]
      exact flat_congr e2
    rw [e3, ih, List.flatMap_map]
    refine flat_congr fun m _ => ?_
    rw [List.map_map]
    refine List.map_congr_left fun c _ => ?_
    simp
/-- the mark at a setting -/
def fV (ns ks r : List Int) : Int := ks.getD (numI ns r).toNat 0
theorem num_get {ns : List Int} (h1 : ∀ n ∈ ns, 1 ≤ n) {j : Nat} {r : List Int} (h : (setS ns)[j]? = some r) : numI ns r = j := by
  have e := congrArg (fun l => l[j]?) (num_all ns h1)
  have e : ((setS ns).map (numI ns))[j]? = ((List.range (prodI ns).toNat).map fun (j : Nat) => (j : Int))[j]? := e
  rw [List.getElem?_map, h, List.getElem?_map] at e
  by_cases q : j < (prodI ns).toNat
  · rw [List.getElem?_range q] at e
    exact Option.some.inj e
  · rw [List.getElem?_eq_none (by simpa using q)] at e
    cases e
theorem set_length {ns : List Int} (h1 : ∀ n ∈ ns, 1 ≤ n) : (setS ns).length = (prodI ns).toNat := by
  have e := congrArg List.length (num_all ns h1)
  simpa using e
theorem get_num {ns : List Int} (h1 : ∀ n ∈ ns, 1 ≤ n) {r : List Int} (h : IsS ns r) : 0 ≤ numI ns r ∧ (setS ns)[(numI ns r).toNat]? = some r := by
  obtain ⟨j, hj⟩ := List.getElem?_of_mem (mem_setS.mpr h)
  rw [num_get h1 hj]
  exact ⟨Int.natCast_nonneg _, by rw [Int.toNat_natCast]; exact hj⟩
theorem fV_map {ns : List Int} (h1 : ∀ n ∈ ns, 1 ≤ n) {g : List Int → Int} {r : List Int} (h : IsS ns r) : fV ns ((setS ns).map g) r = g r := by
  unfold fV
  rw [List.getD_eq_getElem?_getD, List.getElem?_map, (get_num h1 h).2]
  rfl
theorem map_fV {ns ks : List Int} (h1 : ∀ n ∈ ns, 1 ≤ n) (l : ks.length = (prodI ns).toNat) : (setS ns).map (fV ns ks) = ks := by
  refine List.ext_getElem? fun j => ?_
  rw [List.getElem?_map]
  have sl := set_length h1
  by_cases q : j < (prodI ns).toNat
  · have e : (setS ns)[j]? = some ((setS ns)[j]'(by omega)) := List.getElem?_eq_getElem _
    rw [e]
    show some (fV ns ks _) = _
    unfold fV
    rw [num_get h1 e, Int.toNat_natCast, List.getD_eq_getElem?_getD, List.getElem?_eq_getElem (by omega : j < ks.length)]
    rfl
  · rw [List.getElem?_eq_none (by omega), List.getElem?_eq_none (by omega)]
    rfl
theorem list_get (r : List Int) : r = (List.range r.length).map fun (c : Nat) => r.getD c 0 := by
  refine List.ext_getElem? fun j => ?_
  rw [List.getElem?_map]
  by_cases h : j < r.length
  · rw [List.getElem?_range h, List.getElem?_eq_getElem h]
    simp [List.getElem?_eq_getElem h]
  · rw [List.getElem?_eq_none (by omega), List.getElem?_eq_none (by simpa using h)]
    rfl
/-- the sum of weights -/
def wS (ns : List Int) : List Int → Int := fun r => ((List.range ns.length).map fun i => prodI (ns.drop (i + 1)) * r.getD i 0).sum
theorem num_fold : ∀ (ns r : List Int) (a : Int), r.length = ns.length → (ns.zip r).foldl (fun a p => a * p.1 + p.2) a = a * prodI ns + wS ns r
  | [], [], a, _ => by simp [wS, prodI]
  | [], _ :: _, _, h => by simp at h
  | _ :: _, [], _, h => by simp at h
  | n :: ns, c :: r, a, h => by
    rw [List.zip_cons_cons, List.foldl_cons, num_fold ns r _ (by simpa using h), prod_cons]
    unfold wS
    rw [List.length_cons, List.range_succ_eq_map, List.map_cons, List.map_map, List.sum_cons]
    have e : ((fun i => prodI ((n :: ns).drop (i + 1)) * (c :: r).getD i 0) ∘ Nat.succ) = fun i => prodI (ns.drop (i + 1)) * r.getD i 0 := rfl
    rw [e]
    show (a * n + c) * prodI ns + _ = a * (n * prodI ns) + (prodI ns * c + _)
    rw [Int.add_mul, Int.mul_assoc, Int.mul_comm c, Int.add_assoc]
theorem num_w {ns r : List Int} (h : r.length = ns.length) : numI ns r = wS ns r := by
  have := num_fold ns r 0 h
  rw [Int.zero_mul, Int.zero_add] at this
  exact this
theorem getD_set_self {l : List Int} {i : Nat} {a d : Int} (h : i < l.length) : (l.set i a).getD i d = a := by
  rw [List.getD_eq_getElem?_getD, List.getElem?_set_self h]
  rfl
theorem getD_set_ne {l : List Int} {i j : Nat} {a d : Int} (h : i ≠ j) : (l.set i a).getD j d = l.getD j d := by
  rw [List.getD_eq_getElem?_getD, List.getElem?_set_ne h, ← List.getD_eq_getElem?_getD]
theorem getD_mem2 {l : List Int} {i : Nat} (h : i < l.length) : l.getD i 0 ∈ l := by
  rw [List.getD_eq_getElem?_getD, List.getElem?_eq_getElem h]
  exact List.getElem_mem h
theorem list_eq {a b : List Int} (l : a.length = b.length) (h : ∀ i, i < b.length → a.getD i 0 = b.getD i 0) : a = b := by
  rw [list_get a, list_get b, l]
  refine List.map_congr_left fun i hi => ?_
  exact h i (List.mem_range.mp hi)
section
variable {P₀ : Program} {w : World} {K : PySem.W.Frag} {mg : Str → Option Value} {base : Heap} {C_Board C_BoardError C_InvalidBoard C_InvalidSetting C_InvalidSize : Addr}
/-- what of the module these defs read -/
structure Tc (P₀ : Program) (w : World) (K : PySem.W.Frag) (mg : Str → Option Value) (base : Heap) (C_Board C_InvalidSize : Addr) : Prop where
  c_MOST_PARTS : ∃ t, mg "MOST_PARTS" = some (.int 8 t)
  c_MOST_SETTINGS : ∃ t, mg "MOST_SETTINGS" = some (.int 20000 t)
  x_InvalidSize : ExK P₀ w K mg base "InvalidSize" C_InvalidSize "word"
  i_Board : ClsI K C_Board
  na_many : NoAttr K C_Board "many"
  na_sizes : NoAttr K C_Board "sizes"
  na_marks : NoAttr K C_Board "marks"
  na_steps : NoAttr K C_Board "steps"
  len : CalM P₀ w K mg base C_Board "__len__" 1 (sp_len C_Board)
abbrev s_lot_sizes : Stmt := top 31
abbrev N_lot_sizes : List Str := ["board", "lot", "part"]
abbrev P_lot_sizes : List Str := ["board", "lot"]
theorem sc_lot_sizes : FnScope N_lot_sizes P_lot_sizes (defScope s_lot_sizes) := ⟨rfl, rfl, rfl, by decide +kernel, rfl, by decide +kernel, by decide +kernel⟩
def sp_lsz (C_Board : Addr) : DSp := fun ds M Q _ => ∃ (p : Addr) (d : D) (mv : Int) (ns ks : List Int) (lot : List Nat), ds = [.ref p, d] ∧ BdAt C_Board M p mv ns ks ∧ SqD M d (natD lot) ∧ (∀ i ∈ lot, i < ns.length) ∧ lot.length ≤ 100000 ∧ Q (.tup ((lot.map fun i => ns.getD i 0).map D.int)) M
theorem ok_lsz {f : Addr} {fd : FuncData} (Dd : Df K mg "lot_sizes" s_lot_sizes f fd P_lot_sizes) (Z : Zs mg) (T : Tc P₀ w K mg base C_Board C_InvalidSize) : Cal P₀ w K mg base "lot_sizes" 1 (sp_lsz C_Board) := by
  refine Dd.cal sc_lot_sizes (fun ds M P PE h => ?_) (fun cdv A outer s H E ds M P PE hr tk h => ⟨_, (dss_one (ds_ret (de_fnT cr_tup Z.tup (da_cons (de_lc sc_lot_sizes.nd (own := [("part", 2)]) (di_sq (de_var 1)) (blkOk_by (N := N_lot_sizes) (sc := defScope s_lot_sizes) (by decide +kernel)) (ct_name 2)
      (fun _ _ _ _ _ => (pg_name (i := 2) sc_lot_sizes.nd rfl (.inl rfl))) (fun _ _ _ _ _ => dts_nil) (fun _ _ _ _ _ => (de_ix (de_fldK K rfl (de_var 0)) (de_var 2)))) da_nil)))), ?_⟩)
  · obtain ⟨_, _, _, _, _, _, rfl, _⟩ := h
    rfl
  · obtain ⟨p, d, mv, ns, ks, lot, rfl, hp, hd, hi, hl, q⟩ := h
    have c := T.i_Board.cl
    walk_at "w"
    refine ⟨_, hd, fun j acc M' => M' = M ∧ acc = (((lot.map fun i => ns.getD i 0)).take j).map D.int, ⟨_, .refl _, rfl, rfl⟩, fun j acc M' _ ⟨h, _⟩ => h ▸ hd, ?_, ?_⟩
    · rintro j u acc M' hu ⟨rfl, rfl⟩
      obtain ⟨i, h1, rfl⟩ := nat_at hu
      have hj := (List.getElem?_eq_some_iff.mp h1).1
      have hil := hi i (List.mem_of_getElem? h1)
      walk_at "w"
      refine ⟨p, _, _, _, rfl, hp, c, T.na_sizes, rfl, ?_⟩
      walk_at "w"
      refine .inl ⟨_, (i : Nat), _, .tup, rfl, atI_nat (ints_getD hil), ?_⟩
      refine ⟨size_ok (by simp; omega), _, .refl _, rfl, ?_⟩
      rw [List.take_add_one, List.map_append, List.getElem?_map, h1]
      rfl
    · rintro acc M' ⟨rfl, rfl⟩ g hg
      refine ⟨_, .ref upM_same, _, les_new hg, ?_⟩
      rw [List.take_of_length_le (by simp)]
      exact q
def sp_settings : DSp := fun ds M Q _ => ∃ (d : D) (ns : List Int), ds = [d] ∧ SqD M d (ns.map D.int) ∧ ns.length ≤ 100000 ∧ (∀ n ∈ ns, 0 ≤ n ∧ n ≤ 100000) ∧ (∀ j, (setS (ns.take j)).length ≤ 100000) ∧ ∀ q M', Les M M' → M q = none → M' q = some (.lst ((setS ns).map tpD)) → Q (.ref q) M'
end
end K83
set_option linter.all false
namespace K83
open PySem PySem.Spec PyProof.Rows L2 DL
local macro_rules | `(tactic| walk_at "w") => `(tactic| conv => whnf)
section
variable {P₀ : Program} {w : World} {K : PySem.W.Frag} {mg : Str → Option Value} {base : Heap} {C_Board C_BoardError C_InvalidBoard C_InvalidSetting C_InvalidSize : Addr}
abbrev s_all_settings : Stmt := top 20
abbrev N_all_settings : List Str := ["sizes", "settings", "size", "setting", "content"]
abbrev P_all_settings : List Str := ["sizes"]
theorem sc_all_settings : FnScope N_all_settings P_all_settings (defScope s_all_settings) := ⟨rfl, rfl, rfl, by decide +kernel, rfl, by decide +kernel, by decide +kernel⟩
def sp_alls : DSp := fun ds M Q _ => ∃ (d : D) (ns : List Int), ds = [d] ∧ SqD M d (ns.map D.int) ∧ ns.length ≤ 100000 ∧ (∀ n ∈ ns, 0 ≤ n ∧ n ≤ 100000) ∧ (∀ j, (setS (ns.take j)).length ≤ 100000) ∧ ∀ M', Les M M' → Q (.tup ((setS ns).map tpD)) M'
theorem ok_alls {f : Addr} {fd : FuncData} (Dd : Df K mg "all_settings" s_all_settings f fd P_all_settings) (Z : Zs mg) : FnD P₀ w K mg base 1 f fd P_all_settings sp_alls := by
  refine fn_D Dd.F sc_all_settings (fun ds M P PE h => ?_) (fun cdv A outer s H E ds M P PE hr tk h => ⟨_, (dss_cons (ds_set 1 sc_all_settings.nd (de_lst (da_cons (de_tup da_nil) da_nil)))
    (dss_cons (ds_for (passes_of rfl) (di_sq (de_var 0)) (dg_name 2 sc_all_settings.nd) (dss_one (ds_setLc2 1 sc_all_settings.nd (own := [("setting", 3), ("content", 4)]) (vs1 := [4]) (di_sq (de_var 1)) (blkOk_by (N := N_all_settings) (sc := defScope s_all_settings) (by decide +kernel)) (ct_name 3) (ct_name 4)
      (fun _ _ _ _ _ => (pg_name (i := 3) sc_all_settings.nd rfl (.inl rfl))) (fun _ _ _ _ _ => dts_nil) (fun _ _ _ _ _ => (di_rg1 Z.rng (de_var 2))) (fun _ _ _ _ _ => (pg_name (i := 4) sc_all_settings.nd rfl (.inl rfl))) (fun _ _ _ _ _ => dts_nil) (fun _ _ _ _ _ => (de_op or_add (de_var 3) (de_tup (da_cons (de_var 4) da_nil)))))))
    (dss_one (ds_ret (de_fnT cr_tup Z.tup (da_cons (de_var 1) da_nil)))))), ?_⟩)
  · obtain ⟨_, _, rfl, _⟩ := h
    rfl
  · obtain ⟨d, ns, rfl, hd, hl, hn, hb, q⟩ := h
    walk_at "w"
    refine ⟨Nat.zero_le _, ?_⟩
    walk_at "w"
    refine ⟨(by show 1 ≤ sizeLine; decide), fun e he => ?_⟩
    have L1 := les_new (o := .lst [.tup []]) he
    have f1 : upM M e (.lst [.tup []]) e = some (.lst [.tup []]) := upM_same
    generalize upM M e (.lst [.tup []]) = N1 at L1 f1 ⊢
    walk_at "w"
    refine ⟨_, hd.les L1, fun i s M' => Les M M' ∧ ∃ e x2 x3 x4, s = [some d, some (.ref e), x2, x3, x4] ∧ M' e = some (.lst ((setS (ns.take i)).map tpD)), .of ⟨L1, e, _, _, _, rfl, f1⟩, fun i s M' _ ⟨l, _⟩ => hd.les l, ?_, ?_⟩
    · rintro i x s M' hx ⟨L, e, x2, x3, x4, rfl, he⟩
      obtain ⟨n, hn1, rfl⟩ := int_at hx
      have st : setS (ns.take (i + 1)) = setR (setS (ns.take i)) n := by
        unfold setS
        rw [List.take_add_one, hn1, List.foldl_append]
        rfl
      have b1 := hb (i + 1)
      have b0 := hb i
      obtain ⟨n0, n9⟩ := hn n (List.mem_of_getElem? hn1)
      obtain ⟨m, rfl⟩ : ∃ m : Nat, n = (m : Nat) := ⟨n.toNat, by omega⟩
      rw [st] at b1
      have rl : ∀ r ∈ setS (ns.take i), r.length ≤ 100000 := fun r hr => by
        rw [set_len _ r hr, List.length_take]
        omega
      generalize setS (ns.take i) = rows at he st b1 b0 rl
      walk_at "w"
      refine ⟨_, .ref he, fun j acc M2 => M2 = M' ∧ acc = (setR (rows.take j) (m : Nat)).map tpD, ⟨_, .refl _, rfl, rfl⟩, fun j acc M2 _ ⟨h, _⟩ => h ▸ .ref he, ?_, ?_⟩
      · rintro j u acc M2 hu ⟨rfl, rfl⟩
        obtain ⟨r, hr1, rfl⟩ : ∃ r, rows[j]? = some r ∧ u = tpD r := by
          have hu : (rows.map tpD)[j]? = some u := hu
          rw [List.getElem?_map] at hu
          obtain ⟨r, a1, a2⟩ := Option.map_eq_some_iff.mp hu
          exact ⟨r, a1, a2.symm⟩
        have hj := (List.getElem?_eq_some_iff.mp hr1).1
        have sj : setR (rows.take (j + 1)) (m : Nat) = setR (rows.take j) (m : Nat) ++ (List.range m).map fun (c : Nat) => r ++ [(c : Int)] := by
          unfold setR
          rw [List.take_add_one, hr1, List.flatMap_append]
          simp [Int.toNat_natCast]
        have bj : (setR (rows.take j) (m : Nat)).length + m ≤ 100000 := by
          have e1 : setR rows (m : Nat) = setR (rows.take (j + 1)) (m : Nat) ++ setR (rows.drop (j + 1)) (m : Nat) := by
            unfold setR
            rw [← List.flatMap_append, List.take_append_drop]
          rw [e1, List.length_append, sj, List.length_append, List.length_map, List.length_range] at b1
          omega
        have lr := rl r (List.mem_of_getElem? hr1)
        walk_at "w"
        refine ⟨_, rfl, by omega, ?_⟩
        refine ⟨fun k acc M3 => M3 = M2 ∧ acc = (setR (rows.take j) (m : Nat) ++ (List.range k).map fun (c : Nat) => r ++ [(c : Int)]).map tpD, ⟨_, .refl _, rfl, by simp⟩, fun _ _ _ _ _ => trivial, ?_, ?_⟩
        · rintro k v acc M3 hv ⟨rfl, rfl⟩
          obtain ⟨hk, rfl⟩ := rg_at hv
          walk_at "w"
          refine ⟨(by show 1 ≤ sizeLine; decide), ?_⟩
          walk_at "w"
          refine ⟨Nat.le_trans (show _ ≤ 100001 by simp; omega) (by decide), ?_⟩
          refine ⟨size_ok (by simp; omega), _, .refl _, rfl, ?_⟩
          rw [List.range_succ]
          simp
        · rintro acc M3 ⟨rfl, rfl⟩
          refine ⟨_, .refl _, rfl, ?_⟩
          rw [rg_len, sj]
      · rintro acc M2 ⟨rfl, rfl⟩ g hg
        rw [List.length_map, List.take_length]
        exact ⟨_, _, Lss.refl _, Les.refl _, L.trans (les_new hg), g, _, _, _, rfl, by rw [upM_same, st]⟩
    · rintro s M' ⟨L, e, x2, x3, x4, rfl, he⟩
      rw [List.length_map, List.take_length] at he
      walk_at "w"
      refine ⟨_, .ref he, ?_⟩
      exact Lk.of (q _ L)
theorem IsS.init {ns r : List Int} {n c : Int} (h : IsS (ns ++ [n]) (r ++ [c])) (l : r.length = ns.length) : IsS ns r ∧ 0 ≤ c ∧ c < n := by
  have h2 := h.2
  refine ⟨⟨l, fun i hi => ?_⟩, ?_⟩
  · have := h2 i (by rw [List.length_append]; omega)
    rw [getD_app_l (by omega), getD_app_l hi] at this
    exact this
  · have := h2 ns.length (by simp)
    rw [getD_app_r, ← l, getD_app_r] at this
    exact this
theorem IsS.take {ns r : List Int} (h : IsS ns r) (j : Nat) : IsS (ns.take j) (r.take j) := by
  refine ⟨by rw [List.length_take, List.length_take, h.1], fun i hi => ?_⟩
  rw [List.length_take] at hi
  have := h.2 i (by omega)
  have e1 : (r.take j).getD i 0 = r.getD i 0 := by rw [List.getD_eq_getElem?_getD, List.getElem?_take_of_lt (by omega), ← List.getD_eq_getElem?_getD]
  have e2 : (ns.take j).getD i 0 = ns.getD i 0 := by rw [List.getD_eq_getElem?_getD, List.getElem?_take_of_lt (by omega), ← List.getD_eq_getElem?_getD]
  rw [e1, e2]
  exact this
theorem num_step {ns r : List Int} (h : IsS ns r) {j : Nat} (hj : j < ns.length) : numI (ns.take (j + 1)) (r.take (j + 1)) % ns.getD j 0 = r.getD j 0 ∧ numI (ns.take (j + 1)) (r.take (j + 1)) / ns.getD j 0 = numI (ns.take j) (r.take j) := by
  have hr : j < r.length := by rw [h.1]; exact hj
  have a := h.2 j hj
  rw [List.take_add_one, List.take_add_one, List.getElem?_eq_getElem hj, List.getElem?_eq_getElem hr]
  show numI (_ ++ [ns[j]]) (_ ++ [r[j]]) % _ = _ ∧ numI (_ ++ [ns[j]]) (_ ++ [r[j]]) / _ = _
  rw [numI_app _ _ (by rw [List.length_take, List.length_take, h.1])]
  have e1 : ns.getD j 0 = ns[j] := by rw [List.getD_eq_getElem?_getD, List.getElem?_eq_getElem hj]; rfl
  have e2 : r.getD j 0 = r[j] := by rw [List.getD_eq_getElem?_getD, List.getElem?_eq_getElem hr]; rfl
  rw [e1, e2] at a ⊢
  constructor
  · rw [Int.add_comm, Int.add_mul_emod_self_right]
    exact Int.emod_eq_of_lt a.1 a.2
  · rw [Int.add_comm, Int.add_mul_ediv_right _ _ (by omega), Int.ediv_eq_zero_of_lt a.1 a.2, Int.zero_add]
def sp_nth : DSp := fun ds M Q _ => ∃ (d : D) (ns r : List Int), ds = [d, .int (numI ns r)] ∧ SqD M d (ns.map D.int) ∧ (∀ n ∈ ns, 1 ≤ n ∧ n ≤ 20000) ∧ ns.length ≤ 1000 ∧ IsS ns r ∧ ∀ M', Les M M' → Q (tpD r) M'
def sp_isset (K : PySem.W.Frag) : DSp := fun ds M Q _ => ∃ (c d : D) (ns : List Int) (o : Option (List D)) (k : Kd), ds = [c, d] ∧ SqD M c (ns.map D.int) ∧ Vw K M d o ∧ kindD M d = some k ∧ KdOk K k ∧ Q (.bl (kindIs k "tuple" && isN (wpD ns o))) M
end
end K83
set_option linter.all false
namespace K83
open PySem PySem.Spec PyProof.Rows L2 DL
theorem perm_sum {l l' : List Nat} (p : l.Perm l') (w : Nat → Int) : (l.map w).sum = (l'.map w).sum := by
  induction p with
  | nil => rfl
  | cons x _ ih => simp only [List.map_cons, List.sum_cons, ih]
  | swap x y l => simp only [List.map_cons, List.sum_cons]; omega
  | trans _ _ a b => exact a.trans b
def upd (r : List Int) (p : Nat × Int) : List Int := r.set p.1 p.2
theorem upd_len (ps : List (Nat × Int)) : ∀ b : List Int, (ps.foldl upd b).length = b.length := by
  induction ps with
  | nil => intro b; rfl
  | cons p ps ih => intro b; rw [List.foldl_cons, ih]; simp [upd]
theorem upd_not : ∀ (lot : List Nat) (r b : List Int) (i : Nat), i ∉ lot → ((lot.zip r).foldl upd b).getD i 0 = b.getD i 0
  | [], r, b, i, _ => by simp
  | _ :: _, [], b, i, _ => by simp
  | a :: lot, c :: r, b, i, h => by
    rw [List.zip_cons_cons, List.foldl_cons, upd_not lot r _ i (fun z => h (List.mem_cons_of_mem _ z))]
    exact getD_set_ne fun z => h (z ▸ List.mem_cons_self)
theorem upd_get : ∀ (lot : List Nat) (r b : List Int) (k : Nat), lot.Nodup → (∀ i ∈ lot, i < b.length) → k < lot.length → lot.length = r.length → ((lot.zip r).foldl upd b).getD (lot.getD k 0) 0 = r.getD k 0
  | [], _, _, k, _, _, h, _ => absurd h (Nat.not_lt_zero _)
  | _ :: _, [], _, _, _, _, _, h => by simp at h
  | a :: lot, c :: r, b, k, nd, hb, hk, hl => by
    rw [List.zip_cons_cons, List.foldl_cons]
    obtain ⟨na, nd⟩ := List.nodup_cons.mp nd
    cases k with
    | zero =>
      show ((lot.zip r).foldl upd (upd b (a, c))).getD a 0 = c
      rw [upd_not _ _ _ _ na]
      exact getD_set_self (hb a List.mem_cons_self)
    | succ k =>
      exact upd_get lot r _ k nd (fun i hi => by unfold upd; rw [List.length_set]; exact hb i (List.mem_cons_of_mem _ hi)) (by simpa using hk) (by simpa using hl)
def restL (n : Nat) (lot : List Nat) : List Nat := (List.range n).filter fun i => !decide (i ∈ lot)
structure LotOk (n : Nat) (lot : List Nat) : Prop where
  nd : lot.Nodup
  lt : ∀ i ∈ lot, i < n
theorem mem_rest {n i : Nat} {lot : List Nat} : i ∈ restL n lot ↔ i < n ∧ i ∉ lot := by simp [restL]
theorem rest_nd (n : Nat) (lot : List Nat) : (restL n lot).Nodup := List.nodup_range.filter _
theorem rest_ok (n : Nat) (lot : List Nat) : LotOk n (restL n lot) := ⟨List.nodup_range.filter _, fun i h => (mem_rest.mp h).1⟩
theorem lot_perm {n : Nat} {lot : List Nat} (h : LotOk n lot) : (lot ++ restL n lot).Perm (List.range n) := by
  refine (List.perm_ext_iff_of_nodup (List.nodup_append.mpr ⟨h.nd, (rest_nd n lot), fun a ha b hb e => (mem_rest.mp hb).2 (e ▸ ha)⟩) List.nodup_range).mpr fun i => ?_
  rw [List.mem_append, mem_rest, List.mem_range]
  constructor
  · rintro (q | q)
    · exact h.lt i q
    · exact q.1
  · intro q
    by_cases z : i ∈ lot
    · exact .inl z
    · exact .inr ⟨q, z⟩
theorem lot_len {n : Nat} {lot : List Nat} (h : LotOk n lot) : lot.length + (restL n lot).length = n := by
  have := (lot_perm h).length_eq
  rw [List.length_append, List.length_range] at this
  exact this
def atL (r : List Int) (lot : List Nat) : List Int := lot.map fun i => r.getD i 0
def stepL (ns : List Int) (lot : List Nat) (a : List Int) : Int := ((lot.zip a).map fun p => prodI (ns.drop (p.1 + 1)) * p.2).sum
theorem zip_map_sum {f : Nat → Int} {g : Nat → Int} : ∀ lot : List Nat, ((lot.zip (lot.map g)).map fun p => f p.1 * p.2).sum = (lot.map fun i => f i * g i).sum
  | [] => rfl
  | i :: lot => by
    rw [List.map_cons, List.zip_cons_cons, List.map_cons, List.map_cons, List.sum_cons, List.sum_cons, zip_map_sum lot]
theorem step_all {ns r : List Int} {lot : List Nat} (h : LotOk ns.length lot) (l : r.length = ns.length) : stepL ns lot (atL r lot) + stepL ns (restL ns.length lot) (atL r (restL ns.length lot)) = numI ns r := by
  rw [num_w l]
  unfold stepL atL wS
  rw [zip_map_sum (f := fun i => prodI (ns.drop (i + 1))) (g := fun i => r.getD i 0) lot, zip_map_sum (f := fun i => prodI (ns.drop (i + 1))) (g := fun i => r.getD i 0) (restL ns.length lot), ← List.sum_append, ← List.map_append]
  exact perm_sum (lot_perm h) _
/-- both joined -/
def joinL (lot rest : List Nat) (b0 a b : List Int) : List Int := (rest.zip b).foldl upd ((lot.zip a).foldl upd b0)
theorem join_len (lot rest : List Nat) (b0 a b : List Int) : (joinL lot rest b0 a b).length = b0.length := by
  unfold joinL
  rw [upd_len, upd_len]
theorem join_at {lot : List Nat} {b0 a b : List Int} (h : LotOk b0.length lot) (la : a.length = lot.length) (lb : b.length = (restL b0.length lot).length) : atL (joinL lot (restL b0.length lot) b0 a b) lot = a ∧ atL (joinL lot (restL b0.length lot) b0 a b) (restL b0.length lot) = b := by
  have ro := rest_ok b0.length lot
  constructor
  · refine list_eq (by unfold atL; rw [List.length_map, la]) fun k hk => ?_
    unfold atL joinL
    rw [la] at hk
    rw [List.getD_eq_getElem?_getD, List.getElem?_map, List.getElem?_eq_getElem hk]
    show List.getD _ lot[k] 0 = _
    rw [upd_not _ _ _ _ fun z => (mem_rest.mp z).2 (List.getElem_mem hk)]
    have := upd_get lot a b0 k h.nd h.lt hk
    rw [List.getD_eq_getElem?_getD (l := lot), List.getElem?_eq_getElem hk] at this
    exact this la.symm
  · refine list_eq (by unfold atL; rw [List.length_map, lb]) fun k hk => ?_
    unfold atL joinL
    rw [lb] at hk
    rw [List.getD_eq_getElem?_getD, List.getElem?_map, List.getElem?_eq_getElem hk]
    have := upd_get (restL b0.length lot) b ((lot.zip a).foldl upd b0) k ro.nd (fun i hi => by rw [upd_len]; exact ro.lt i hi) hk
    rw [List.getD_eq_getElem?_getD (l := restL b0.length lot), List.getElem?_eq_getElem hk] at this
    exact this lb.symm
theorem join_self {lot : List Nat} {b0 r : List Int} (h : LotOk b0.length lot) (l : r.length = b0.length) : joinL lot (restL b0.length lot) b0 (atL r lot) (atL r (restL b0.length lot)) = r := by
  obtain ⟨e1, e2⟩ := join_at (b0 := b0) (a := atL r lot) (b := atL r (restL b0.length lot)) h (by simp [atL]) (by simp [atL])
  generalize hj : joinL lot (restL b0.length lot) b0 (atL r lot) (atL r (restL b0.length lot)) = j at e1 e2
  have lj : j.length = b0.length := by rw [← hj, join_len]
  refine list_eq (by omega) fun i hi => ?_
  by_cases q : i ∈ lot
  · obtain ⟨k, hk, rfl⟩ := List.mem_iff_getElem.mp q
    have := congrArg (fun l => l.getD k 0) e1
    unfold atL at this
    simp only [List.getD_eq_getElem?_getD, List.getElem?_map, List.getElem?_eq_getElem hk] at this
    simpa [List.getD_eq_getElem?_getD] using this
  · have q2 : i ∈ restL b0.length lot := mem_rest.mpr ⟨by omega, q⟩
    obtain ⟨k, hk, rfl⟩ := List.mem_iff_getElem.mp q2
    have := congrArg (fun l => l.getD k 0) e2
    unfold atL at this
    simp only [List.getD_eq_getElem?_getD, List.getElem?_map, List.getElem?_eq_getElem hk] at this
    simpa [List.getD_eq_getElem?_getD] using this
end K83
set_option linter.all false
namespace K83
open PySem PySem.Spec PyProof.Rows L2 DL
local macro_rules | `(tactic| walk_at "w") => `(tactic| conv => whnf)
def leastL (xs : List D) (i : Nat) : Int := if i = 0 then 0 else toI (xs.getD (i - 1) .non) + 1
def badL (n : Int) (xs : List D) (i : Nat) : Bool := !isB n (xs.getD i .non) || decide (toI (xs.getD i .non) < leastL xs i)
/-- what is wrong with a lot -/
def ldD (n : Int) : Option (List D) → D
  | none => .int (-1)
  | some xs => if xs.length = 0 then .int (-1) else plD (firstN (badL n xs) xs.length)
structure Tl (P₀ : Program) (w : World) (K : PySem.W.Frag) (mg : Str → Option Value) (base : Heap) (C_Board C_BoardError C_InvalidLot : Addr) : Prop where
  x_InvalidLot : ExK P₀ w K mg base "InvalidLot" C_InvalidLot "at"
  e_InvalidLot : ExI K C_InvalidLot
  n_BoardError : mg "BoardError" = some (.ref C_BoardError)
  n_ValueError : mg "ValueError" = none
  is_InvalidLot_BoardError : PySem.W.kitOne K (.ref C_InvalidLot) (.ref C_BoardError) = some true
  is_InvalidLot_ValueError : PySem.W.kitOne K (.ref C_InvalidLot) (.type "ValueError") = some false
  ex_LL : PySem.W.exmOne K (.ref C_InvalidLot) (.ref C_InvalidLot) = some true
  len : CalM P₀ w K mg base C_Board "__len__" 1 (sp_len C_Board)
section
variable {P₀ : Program} {w : World} {K : PySem.W.Frag} {mg : Str → Option Value} {base : Heap} {C_Board C_BoardError C_InvalidBoard C_InvalidSetting C_InvalidSize C_InvalidLot : Addr}
abbrev s_need_lot : Stmt := top 29
abbrev N_need_lot : List Str := ["board", "value", "least", "at", "part"]
abbrev P_need_lot : List Str := ["board", "value"]
theorem sc_need_lot : FnScope N_need_lot P_need_lot (defScope s_need_lot) := ⟨rfl, rfl, rfl, by decide +kernel, rfl, by decide +kernel, by decide +kernel⟩
def sp_nlot (K : PySem.W.Frag) (C_Board C_InvalidLot : Addr) : DSp := fun ds M Q PE => ∃ (p : Addr) (d : D) (mv : Int) (ns ks : List Int) (o : Option (List D)), ds = [.ref p, d] ∧ BdAt C_Board M p mv ns ks ∧ ns.length ≤ 1000 ∧ Vw K M d o ∧
  match ldD (ns.length : Nat) o with
  | .non => Q (.tup (o.getD [])) M
  | e => PE ⟨C_InvalidLot, [("at", e)]⟩ M
theorem ok_nlot {f : Addr} {fd : FuncData} (Dd : Df K mg "need_lot" s_need_lot f fd P_need_lot) (Z : Zs mg) (T : Tl P₀ w K mg base C_Board C_BoardError C_InvalidLot) (G_is_sequence : Cal P₀ w K mg base "is_sequence" 1 (sp_is_sequence K)) (G_is_below : Cal P₀ w K mg base "is_below" 2 (sp_is_below K)) : FnD P₀ w K mg base 4 f fd P_need_lot (sp_nlot K C_Board C_InvalidLot) := by
  refine fn_D Dd.F sc_need_lot (fun ds M P PE h => ?_) (fun cdv A outer s H E ds M P PE hr tk h => ⟨_, (dss_cons (ds_if (DW.dt (dw_or (dt_not (dt_tru (de_call G_is_sequence (hr.mono (by decide)) tk (da_cons (de_var 1) da_nil)))) (dw_or1 (dt_cmp (or_eq hr.r.units) (de_fnB cr_len Z.len (da_cons (de_var 1) da_nil)) de_int)))) (dss_one (ds_raise T.x_InvalidLot (hr.mono (by decide)).r tk (da_cons (de_neg de_int) da_nil))) dss_nil)
    (dss_cons (ds_set 2 sc_need_lot.nd de_int)
    (dss_cons (ds_for (passes_of rfl) (di_en Z.enum (de_var 1)) (dg_tup (n := 2) rfl (dgs_cons (dg_name 3 sc_need_lot.nd) (dgs_cons (dg_name 4 sc_need_lot.nd) dgs_nil))) (dss_cons (ds_if (DW.dt (dw_or (dt_not (dt_tru (de_call G_is_below (hr.mono (by decide)) tk (da_cons (de_var 4) (da_cons (de_lenO Z.len T.len (hr.mono (by decide)) tk (de_var 0)) da_nil))))) (dw_or1 (dt_cmp or_lt (de_var 4) (de_var 2))))) (dss_one (ds_raise T.x_InvalidLot (hr.mono (by decide)).r tk (da_cons (de_var 3) da_nil))) dss_nil)
    (dss_one (ds_set 2 sc_need_lot.nd (de_op or_add (de_var 4) de_int)))))
    (dss_one (ds_ret (de_fnT cr_tup Z.tup (da_cons (de_var 1) da_nil))))))), ?_⟩)
  · obtain ⟨_, _, _, _, _, _, rfl, _⟩ := h
    rfl
  · obtain ⟨p, d, mv, ns, ks, o, rfl, hp, hl, hv, q⟩ := h
    walk_at "w"
    refine ⟨d, o, rfl, hv, ?_⟩
    cases o with
    | none =>
      walk_at "w"
      exact ⟨M, .refl M, q⟩
    | some xs =>
      walk_at "w"
      refine .inl ⟨xs, hv.1, ?_⟩
      walk_at "w"
      refine ifB_mk (fun h1 => ?_) (fun h1 => ?_)
      · have e : xs.length = 0 := by simp at h1; simp [h1]
        walk_at "w"
        refine ⟨M, .refl M, ?_⟩
        have e2 : ldD (ns.length : Nat) (some xs) = .int (-1) := if_pos e
        rw [e2] at q
        exact q
      · have e : ¬ xs.length = 0 := by simp at h1; simp [h1]
        have e2 : ldD (ns.length : Nat) (some xs) = plD (firstN (badL (ns.length : Nat) xs) xs.length) := if_neg e
        rw [e2] at q
        walk_at "w"
        refine ⟨_, hv.1, fun i s M' => M' = M ∧ firstN (badL (ns.length : Nat) xs) i = none ∧ ∃ y z, s = [some (.ref p), some d, some (.int (leastL xs i)), y, z], .of ⟨rfl, rfl, _, _, rfl⟩, fun i s M' _ ⟨e, _⟩ => e ▸ hv.1, ?_, ?_⟩
        · rintro i x s M' hx ⟨rfl, hf, y, z, rfl⟩
          obtain ⟨t, h3, rfl⟩ := en_at hx
          obtain ⟨hi, _⟩ := List.getElem?_eq_some_iff.mp h3
          have e3 : xs.getD i .non = t := by rw [List.getD_eq_getElem?_getD, h3]; rfl
          refine ⟨rfl, ?_⟩
          walk_at "w"
          refine .inr ⟨p, _, rfl, hp, p, mv, ns, ks, rfl, hp, _, rfl, by omega, ?_⟩
          walk_at "w"
          refine ⟨t, _, rfl, hv.2 _ (List.mem_of_getElem? h3), ?_⟩
          cases hb : isB (ns.length : Nat) t with
          | false =>
            have eb : badL (ns.length : Nat) xs i = true := by unfold badL; rw [e3, hb]; rfl
            rw [firstN_hit hf eb hi] at q
            walk_at "w"
            exact ⟨_, .refl _, q⟩
          | true =>
            obtain ⟨k, rfl⟩ : ∃ k, t = .int k := by cases t <;> first | exact ⟨_, rfl⟩ | cases hb
            walk_at "w"
            refine ifB_mk (fun h4 => ?_) (fun h4 => ?_)
            · have eb : badL (ns.length : Nat) xs i = true := by unfold badL; rw [e3, hb]; exact h4
              rw [firstN_hit hf eb hi] at q
              walk_at "w"
              exact ⟨_, .refl _, q⟩
            · have eb : badL (ns.length : Nat) xs i = false := by unfold badL; rw [e3, hb]; exact h4
              walk_at "w"
              refine ⟨_, _, Lss.refl _, Les.refl _, rfl, firstN_step hf eb, some (.int (i : Nat)), some (.int k), ?_⟩
              have el : leastL xs (i + 1) = k + 1 := by
                unfold leastL
                rw [if_neg (by omega), Nat.add_sub_cancel, e3]
                rfl
              rw [el]
              rfl
        · rintro s M' ⟨rfl, hf, y, z, rfl⟩
          have l : (enD xs).length = xs.length := by simp [enD]
          rw [l] at hf
          rw [hf] at q
          walk_at "w"
          refine ⟨_, hv.1, ?_⟩
          exact Lk.of q
def sp_ldue (K : PySem.W.Frag) : DSp := fun ds M Q _ => ∃ (d : D) (n : Nat) (o : Option (List D)), ds = [.int (n : Nat), d] ∧ Vw K M d o ∧ (∀ xs, o = some xs → xs.length ≤ 100000) ∧ Q (ldD (n : Nat) o) M
end
end K83
set_option linter.all false
namespace K83
open PySem PySem.Spec PyProof.Rows L2 DL
local macro_rules | `(tactic| walk_at "w") => `(tactic| conv => whnf)
theorem perm_prod {l l' : List Nat} (p : l.Perm l') (w : Nat → Int) : prodI (l.map w) = prodI (l'.map w) := by
  induction p with
  | nil => rfl
  | cons x _ ih => simp only [List.map_cons, prod_cons, ih]
  | swap x y l => simp only [List.map_cons, prod_cons]; rw [← Int.mul_assoc, ← Int.mul_assoc, Int.mul_comm (w y) (w x)]
  | trans _ _ a b => exact a.trans b
theorem range_get (ns : List Int) : (List.range ns.length).map (fun i => ns.getD i 0) = ns := by
  refine List.ext_getElem? fun j => ?_
  rw [List.getElem?_map]
  by_cases h : j < ns.length
  · rw [List.getElem?_range h, List.getElem?_eq_getElem h]
    simp [List.getElem?_eq_getElem h]
  · rw [List.getElem?_eq_none (by simpa using h), List.getElem?_eq_none (by omega)]
    rfl
theorem any_nat (i : Nat) : ∀ lot : List Nat, ((lot.map fun j => PyData.int (j : Nat)).any fun z => PyData.eqv z (.int (i : Nat))) = decide (i ∈ lot)
  | [] => by simp
  | j :: lot => by
    rw [List.map_cons, List.any_cons, any_nat i lot]
    have : PyData.eqv (.int (j : Nat)) (.int (i : Nat)) = decide (i = j) := by
      simp only [PyData.eqv]
      by_cases h : i = j
      · subst h; simp
      · simp [h]; omega
    rw [this]
    by_cases h : i = j <;> simp [h]
theorem pds_nat {M : DHp} (lot : List Nat) : Pds M (natD lot) (lot.map fun j => PyData.int (j : Nat)) := by
  have := pd_ints (M := M) (lot.map fun (j : Nat) => (j : Int))
  rw [List.map_map, List.map_map] at this
  exact this
theorem shaped_nat (lot : List Nat) : SeqAt.shaped (.tuple (lot.map fun j => PyData.int (j : Nat))) = true := by
  have := shaped_tup (lot.map fun (j : Nat) => (j : Int))
  rw [List.map_map] at this
  exact this
theorem shaped_int (i : Int) : SeqAt.shaped (.int i) = true := by
  unfold SeqAt.shaped
  rw [Bool.and_eq_true]
  exact ⟨by simp only [PyData.canLay0], decide_eq_true (by simp only [PyData.depth]; omega)⟩
section
variable {P₀ : Program} {w : World} {K : PySem.W.Frag} {mg : Str → Option Value} {base : Heap} {C_Board C_BoardError C_InvalidBoard C_InvalidSetting C_InvalidSize C_InvalidLot : Addr}
theorem notin_ok {M : DHp} {c : D} {i : Nat} {lot : List Nat} {Q : Bool → DHp → Prop} (h : SqD M c (natD lot)) (q : Q (!decide (i ∈ lot)) M) : inP true (.int (i : Nat)) c M Q := by
  have hb : c = .tup (natD lot) ∨ ∃ p, c = .ref p ∧ (M p = some (.lst (natD lot)) ∨ M p = some (.frz (natD lot))) := h
  have : inP true (.int (i : Nat)) c M Q := ⟨.int (i : Nat), natD lot, _, .int _, hb, pds_nat lot, shaped_int _, shaped_nat lot, by rw [if_pos rfl, any_nat]; exact q⟩
  exact this
abbrev s_rest_of : Stmt := top 30
abbrev N_rest_of : List Str := ["board", "lot", "part"]
abbrev P_rest_of : List Str := ["board", "lot"]
theorem sc_rest_of : FnScope N_rest_of P_rest_of (defScope s_rest_of) := ⟨rfl, rfl, rfl, by decide +kernel, rfl, by decide +kernel, by decide +kernel⟩
def sp_rest (C_Board : Addr) : DSp := fun ds M Q _ => ∃ (p : Addr) (d : D) (mv : Int) (ns ks : List Int) (lot : List Nat), ds = [.ref p, d] ∧ BdAt C_Board M p mv ns ks ∧ SqD M d (natD lot) ∧ ns.length ≤ 1000 ∧ ∀ M', Les M M' → Q (.tup (natD (restL ns.length lot))) M'
theorem ok_rest {f : Addr} {fd : FuncData} (Dd : Df K mg "rest_of" s_rest_of f fd P_rest_of) (Z : Zs mg) (T : Tc P₀ w K mg base C_Board C_InvalidSize) : FnD P₀ w K mg base 3 f fd P_rest_of (sp_rest C_Board) := by
  refine fn_D Dd.F sc_rest_of (fun ds M P PE h => ?_) (fun cdv A outer s H E ds M P PE hr tk h => ⟨_, (dss_one (ds_ret (de_fnT cr_tup Z.tup (da_cons (de_lc sc_rest_of.nd (own := [("part", 2)]) (di_rg1 Z.rng (de_lenO Z.len T.len (hr.mono (by decide)) tk (de_var 0))) (blkOk_by (N := N_rest_of) (sc := defScope s_rest_of) (by decide +kernel)) (ct_name 2)
      (fun _ _ _ _ _ => (pg_name (i := 2) sc_rest_of.nd rfl (.inl rfl))) (fun _ _ _ _ _ => (dts_one (dt_cmp (or_notin hr) (de_var 2) (de_var 1)))) (fun _ _ _ _ _ => (de_var 2))) da_nil)))), ?_⟩)
  · obtain ⟨_, _, _, _, _, _, rfl, _⟩ := h
    rfl
  · obtain ⟨p, d, mv, ns, ks, lot, rfl, hp, hd, hl, q⟩ := h
    walk_at "w"
    refine .inr ⟨p, _, rfl, hp, p, mv, ns, ks, rfl, hp, _, rfl, by omega, ?_⟩
    refine ⟨_, rfl, by omega, ?_⟩
    refine ⟨fun j acc M' => M' = M ∧ acc = natD ((List.range j).filter fun i => !decide (i ∈ lot)), ⟨_, .refl _, rfl, rfl⟩, fun _ _ _ _ _ => trivial, ?_, ?_⟩
    · rintro j u acc M' hu ⟨rfl, rfl⟩
      obtain ⟨hj, rfl⟩ := rg_at hu
      walk_at "w"
      refine ⟨.int (j : Nat), natD lot, _, .int _, hd, pds_nat lot, shaped_int _, shaped_nat lot, ?_⟩
      rw [if_pos rfl, any_nat]
      refine ifB_mk (fun h => ?_) (fun h => ?_)
      · walk_at "w"
        have le := List.length_filter_le (fun i => !decide (i ∈ lot)) (List.range j)
        rw [List.length_range] at le
        refine ⟨size_ok (by rw [List.length_map]; omega), _, .refl _, rfl, ?_⟩
        rw [List.range_succ, List.filter_append, natD, natD, List.map_append]
        congr 1
        have h : (!decide (j ∈ lot)) = true := h
        rw [List.filter_cons_of_pos (p := fun i => !decide (i ∈ lot)) h]
        rfl
      · refine ⟨_, .refl _, rfl, ?_⟩
        rw [List.range_succ, List.filter_append, List.filter_cons_of_neg (p := fun i => !decide (i ∈ lot)) (by rw [h]; decide), List.filter_nil, List.append_nil]
    · rintro acc M' ⟨rfl, rfl⟩ e he
      rw [rg_len]
      have L1 := les_new (o := .lst (natD (restL ns.length lot))) he
      have f1 : upM M' e (.lst (natD (restL ns.length lot))) e = some (.lst (natD (restL ns.length lot))) := upM_same
      refine ⟨_, .ref f1, ?_⟩
      exact Lk.of (q _ L1)
abbrev s_lot_contents : Stmt := top 32
abbrev N_lot_contents : List Str := ["board", "lot"]
abbrev P_lot_contents : List Str := ["board", "lot"]
theorem sc_lot_contents : FnScope N_lot_contents P_lot_contents (defScope s_lot_contents) := ⟨rfl, rfl, rfl, by decide +kernel, rfl, by decide +kernel, by decide +kernel⟩
def sp_cont (C_Board : Addr) : DSp := fun ds M Q _ => ∃ (p : Addr) (d : D) (mv : Int) (ns ks : List Int) (lot : List Nat), ds = [.ref p, d] ∧ BdAt C_Board M p mv ns ks ∧ BdF mv ns ks ∧ SqD M d (natD lot) ∧ LotOk ns.length lot ∧ ∀ M', Les M M' → Q (.tup ((setS (atL ns lot)).map tpD)) M'
theorem at_n {ns : List Int} {lot : List Nat} (h : LotOk ns.length lot) {P : Int → Prop} (hn : ∀ n ∈ ns, P n) : ∀ n ∈ atL ns lot, P n := fun n hn' => by
  obtain ⟨i, hi, rfl⟩ := List.mem_map.mp hn'
  exact hn _ (getD_mem2 (h.lt i hi))
theorem prod_at {ns : List Int} {lot : List Nat} (h : LotOk ns.length lot) (h1 : ∀ n ∈ ns, 1 ≤ n) : prodI (atL ns lot) * prodI (atL ns (restL ns.length lot)) = prodI ns := by
  rw [← prod_app]
  unfold atL
  rw [← List.map_append, perm_prod (lot_perm h)]
  rw [range_get]
theorem lot_short {n : Nat} {lot : List Nat} (h : LotOk n lot) : lot.length ≤ n := by
  have := lot_len h
  omega
theorem prod_lot {ns : List Int} {lot : List Nat} (h : LotOk ns.length lot) (h1 : ∀ n ∈ ns, 1 ≤ n) : prodI (atL ns lot) ≤ prodI ns := by
  have a := prod_at h h1
  have b := prod_pos (ns := atL ns lot) (at_n h h1)
  have c := prod_pos (ns := atL ns (restL ns.length lot)) (at_n (rest_ok _ _) h1)
  have : prodI (atL ns lot) * 1 ≤ prodI (atL ns lot) * prodI (atL ns (restL ns.length lot)) := Int.mul_le_mul_of_nonneg_left c (by omega)
  omega
theorem set_short {ns : List Int} (h1 : ∀ n ∈ ns, 1 ≤ n) (l : prodI ns ≤ 20000) (j : Nat) : (setS (ns.take j)).length ≤ 100000 := by
  rw [set_length fun n hn => h1 n (List.mem_of_mem_take hn)]
  have := prod_take h1 j
  omega
theorem n_small {ns : List Int} (h1 : ∀ n ∈ ns, 1 ≤ n) (l : prodI ns ≤ 20000) : ∀ n ∈ ns, n ≤ 20000 := fun n hn => by
  obtain ⟨i, hi, rfl⟩ := List.mem_iff_getElem.mp hn
  have e : ns = ns.take i ++ ns[i] :: ns.drop (i + 1) := by rw [← List.drop_eq_getElem_cons hi, List.take_append_drop]
  have a := prod_pos (ns := ns.take i) fun n hn => h1 n (List.mem_of_mem_take hn)
  have b := (prod_drop h1 (i + 1)).1
  have hp : prodI ns = prodI (ns.take i) * (ns[i] * prodI (ns.drop (i + 1))) := by
    conv => lhs; rw [e]
    rw [prod_app, prod_cons]
  have hn1 := h1 _ (List.getElem_mem hi)
  have c : ns[i] * 1 ≤ ns[i] * prodI (ns.drop (i + 1)) := Int.mul_le_mul_of_nonneg_left b (by omega)
  have d : 1 * (ns[i] * prodI (ns.drop (i + 1))) ≤ prodI (ns.take i) * (ns[i] * prodI (ns.drop (i + 1))) := Int.mul_le_mul_of_nonneg_right a (by omega)
  omega
theorem ok_cont {f : Addr} {fd : FuncData} (Dd : Df K mg "lot_contents" s_lot_contents f fd P_lot_contents) (Z : Zs mg) (G_all_settings : Cal P₀ w K mg base "all_settings" 1 sp_alls) (G_lot_sizes : Cal P₀ w K mg base "lot_sizes" 1 (sp_lsz C_Board)) : FnD P₀ w K mg base 2 f fd P_lot_contents (sp_cont C_Board) := by
  refine fn_D Dd.F sc_lot_contents (fun ds M P PE h => ?_) (fun cdv A outer s H E ds M P PE hr tk h => ⟨_, (dss_one (ds_ret (de_call G_all_settings (hr.mono (by decide)) tk (da_cons (de_call G_lot_sizes (hr.mono (by decide)) tk (da_cons (de_var 0) (da_cons (de_var 1) da_nil))) da_nil)))), ?_⟩)
  · obtain ⟨_, _, _, _, _, _, rfl, _⟩ := h
    rfl
  · obtain ⟨p, d, mv, ns, ks, lot, rfl, hp, B, hd, lo, q⟩ := h
    have l2 := B.l2
    have ls := lot_short lo
    have h1 := at_n lo B.n1
    have pl := prod_lot lo B.n1
    have pr := B.pr
    have l8 := B.l2
    walk_at "w"
    refine ⟨p, d, mv, ns, ks, lot, rfl, hp, hd, lo.lt, by omega, ?_⟩
    refine ⟨_, atL ns lot, rfl, .tup, by unfold atL; rw [List.length_map]; omega, fun n hn => by have := h1 n hn; have := n_small h1 (by omega) n hn; omega, set_short h1 (by omega), fun M' L => ?_⟩
    exact Lk.of (q _ L)
end
end K83
set_option linter.all false
namespace K83
open PySem PySem.Spec PyProof.Rows L2 DL
local macro_rules | `(tactic| walk_at "w") => `(tactic| conv => whnf)
section
variable {P₀ : Program} {w : World} {K : PySem.W.Frag} {mg : Str → Option Value} {base : Heap} {C_Board C_BoardError C_InvalidBoard C_InvalidSetting C_InvalidSize C_InvalidLot : Addr}
theorem steps_at {ns : List Int} {i : Nat} (h : i < ns.length) : ((stepsI ns).map D.int)[i]? = some (.int (prodI (ns.drop (i + 1)))) := by
  unfold stepsI
  rw [List.getElem?_map, List.getElem?_map, List.getElem?_range h]
  rfl
abbrev s_lot_step : Stmt := top 33
abbrev N_lot_step : List Str := ["board", "lot", "contents", "part", "content"]
abbrev P_lot_step : List Str := ["board", "lot", "contents"]
theorem sc_lot_step : FnScope N_lot_step P_lot_step (defScope s_lot_step) := ⟨rfl, rfl, rfl, by decide +kernel, rfl, by decide +kernel, by decide +kernel⟩
def sp_lstep (C_Board : Addr) : DSp := fun ds M Q _ => ∃ (p : Addr) (d e : D) (mv : Int) (ns ks a : List Int) (lot : List Nat), ds = [.ref p, d, e] ∧ BdAt C_Board M p mv ns ks ∧ BdF mv ns ks ∧ SqD M d (natD lot) ∧ SqD M e (a.map D.int) ∧ LotOk ns.length lot ∧ a.length = lot.length ∧ ∀ M', Les M M' → Q (.int (stepL ns lot a)) M'
theorem ok_lstep {f : Addr} {fd : FuncData} (Dd : Df K mg "lot_step" s_lot_step f fd P_lot_step) (Z : Zs mg) (T : Tc P₀ w K mg base C_Board C_InvalidSize) : Cal P₀ w K mg base "lot_step" 1 (sp_lstep C_Board) := by
  refine Dd.cal sc_lot_step (fun ds M P PE h => ?_) (fun cdv A outer s H E ds M P PE hr tk h => ⟨_, (dss_one (ds_ret (de_fnB (cr_sumD rfl) Z.sum (da_cons (de_lc sc_lot_step.nd (own := [("part", 3), ("content", 4)]) (di_zp Z.zip (de_var 1) (de_var 2)) (blkOk_by (N := N_lot_step) (sc := defScope s_lot_step) (by decide +kernel)) (ct_tup (ct_cons (ct_name 3) (ct_cons (ct_name 4) ct_nil)))
      (fun _ _ _ _ _ => (pg_TL (n := 2) rfl (pgs_cons (pg_name (i := 3) sc_lot_step.nd rfl (.inl rfl)) (pgs_cons (pg_name (i := 4) sc_lot_step.nd rfl (.inl rfl)) pgs_nil)))) (fun _ _ _ _ _ => dts_nil) (fun _ _ _ _ _ => (de_op or_mul (de_ix (de_fldK K rfl (de_var 0)) (de_var 3)) (de_var 4)))) da_nil)))), ?_⟩)
  · obtain ⟨_, _, _, _, _, _, _, _, rfl, _⟩ := h
    rfl
  · obtain ⟨p, d, e, mv, ns, ks, a, lot, rfl, hp, B, hd, he, lo, la, q⟩ := h
    have c := T.i_Board.cl
    have ls := lot_short lo
    have l2 := B.l2
    walk_at "w"
    refine ⟨_, _, hd, he, fun j acc M' => M' = M ∧ acc = (((lot.zip a).map fun p => prodI (ns.drop (p.1 + 1)) * p.2).take j).map D.int, ⟨_, .refl _, rfl, rfl⟩, fun j acc M' _ ⟨h, _⟩ => h ▸ ⟨hd, he⟩, ?_, ?_⟩
    · rintro j u acc M' hu ⟨rfl, rfl⟩
      obtain ⟨x, y, h1, h2, rfl⟩ := pr_at hu
      obtain ⟨i, g1, rfl⟩ := nat_at h1
      obtain ⟨v, g2, rfl⟩ := int_at h2
      have hj := (List.getElem?_eq_some_iff.mp g1).1
      have hi := lo.lt i (List.mem_of_getElem? g1)
      refine ⟨rfl, ?_⟩
      walk_at "w"
      refine ⟨p, _, _, _, rfl, hp, c, T.na_steps, rfl, ?_⟩
      walk_at "w"
      refine .inl ⟨_, (i : Nat), _, .tup, rfl, atI_nat (steps_at hi), ?_⟩
      walk_at "w"
      have ps := prod_drop B.n1 (i + 1)
      have pr := B.pr
      refine ⟨.inl (by omega), ?_⟩
      refine ⟨size_ok (by simp; omega), _, .refl _, rfl, ?_⟩
      rw [List.take_add_one, List.getElem?_map, (List.getElem?_zip_eq_some (z := (i, v))).mpr ⟨g1, g2⟩, List.map_append]
      rfl
    · rintro acc M' ⟨rfl, rfl⟩ g hg
      have ll : (DL.prD (natD lot) (a.map D.int)).length = ((lot.zip a).map fun p => prodI (ns.drop (p.1 + 1)) * p.2).length := by rw [DL.prD_len, List.length_map, List.length_map, List.length_map, List.length_zip]
      dsimp only
      rw [ll, List.take_length]
      have L1 := les_new (o := .lst (((lot.zip a).map fun p => prodI (ns.drop (p.1 + 1)) * p.2).map D.int)) hg
      have f1 : upM M' g (.lst (((lot.zip a).map fun p => prodI (ns.drop (p.1 + 1)) * p.2).map D.int)) g = some (.lst (((lot.zip a).map fun p => prodI (ns.drop (p.1 + 1)) * p.2).map D.int)) := upM_same
      generalize upM M' g (.lst (((lot.zip a).map fun p => prodI (ns.drop (p.1 + 1)) * p.2).map D.int)) = N at L1 f1 ⊢
      refine ⟨g, _, rfl, .inl f1, ?_⟩
      exact Lk.of (q _ L1)
def sp_parted (C_Board : Addr) : DSp := fun ds M Q _ => ∃ (p : Addr) (d e : D) (mv : Int) (ns ks r : List Int) (lot : List Nat), ds = [.ref p, d, e] ∧ BdAt C_Board M p mv ns ks ∧ ns.length ≤ 1000 ∧ SqD M d (natD lot) ∧ SqD M e (r.map D.int) ∧ LotOk ns.length lot ∧ r.length = ns.length ∧ ∀ M', Les M M' → Q (.tup [tpD (atL r lot), tpD (atL r (restL ns.length lot))]) M'
end
end K83
set_option linter.all false
namespace K83
open PySem PySem.Spec PyProof.Rows L2 DL
local macro_rules | `(tactic| walk_at "w") => `(tactic| conv => whnf)
abbrev rgI (n : Nat) : List Int := (List.range n).map fun (i : Nat) => (i : Int)
section
variable {P₀ : Program} {w : World} {K : PySem.W.Frag} {mg : Str → Option Value} {base : Heap} {C_Board C_BoardError C_InvalidBoard C_InvalidSetting C_InvalidSize C_InvalidLot : Addr}
def sp_joined (C_Board : Addr) : DSp := fun ds M Q _ => ∃ (p : Addr) (d e1 e2 : D) (mv : Int) (ns ks a b : List Int) (lot : List Nat), ds = [.ref p, d, e1, e2] ∧ BdAt C_Board M p mv ns ks ∧ ns.length ≤ 1000 ∧ SqD M d (natD lot) ∧ SqD M e1 (a.map D.int) ∧ SqD M e2 (b.map D.int) ∧ LotOk ns.length lot ∧ a.length = lot.length ∧ b.length = (restL ns.length lot).length ∧ ∀ M', Les M M' → Q (tpD (joinL lot (restL ns.length lot) (rgI ns.length) a b)) M'
end
end K83
set_option linter.all false
namespace K83
open PySem PySem.Spec PyProof.Rows L2 DL
local macro_rules | `(tactic| walk_at "w") => `(tactic| conv => whnf)
theorem at_get {r : List Int} {lot : List Nat} {k : Nat} (h : k < lot.length) : (atL r lot).getD k 0 = r.getD lot[k] 0 := by
  unfold atL
  rw [List.getD_eq_getElem?_getD, List.getElem?_map, List.getElem?_eq_getElem h]
  rfl
theorem is_part {ns r : List Int} {lot : List Nat} (h : IsS ns r) (lo : LotOk ns.length lot) : IsS (atL ns lot) (atL r lot) := by
  refine ⟨by simp [atL], fun k hk => ?_⟩
  have hk : k < lot.length := by simpa [atL] using hk
  rw [at_get hk, at_get hk]
  exact h.2 _ (lo.lt _ (List.getElem_mem hk))
theorem join_is {ns a b : List Int} {lot : List Nat} (lo : LotOk ns.length lot) (ha : IsS (atL ns lot) a) (hb : IsS (atL ns (restL ns.length lot)) b) :
    IsS ns (joinL lot (restL ns.length lot) (rgI ns.length) a b) ∧ atL (joinL lot (restL ns.length lot) (rgI ns.length) a b) lot = a ∧ atL (joinL lot (restL ns.length lot) (rgI ns.length) a b) (restL ns.length lot) = b := by
  have l0 : (rgI ns.length).length = ns.length := by simp
  have la : a.length = lot.length := by have := ha.1; simpa [atL] using this
  have lb : b.length = (restL ns.length lot).length := by have := hb.1; simpa [atL] using this
  have j := join_at (b0 := rgI ns.length) (lot := lot) (a := a) (b := b) (by rw [l0]; exact lo) la (by rw [l0]; exact lb)
  rw [l0] at j
  obtain ⟨e1, e2⟩ := j
  have jl := join_len lot (restL ns.length lot) (rgI ns.length) a b
  rw [l0] at jl
  generalize joinL lot (restL ns.length lot) (rgI ns.length) a b = r at e1 e2 jl ⊢
  refine ⟨⟨jl, fun i hi => ?_⟩, e1, e2⟩
  by_cases q : i ∈ lot
  · obtain ⟨k, hk, rfl⟩ := List.mem_iff_getElem.mp q
    have h := ha.2 k (by simpa [atL] using hk)
    rw [← e1, at_get hk, at_get hk] at h
    exact h
  · have q2 : i ∈ restL ns.length lot := mem_rest.mpr ⟨hi, q⟩
    obtain ⟨k, hk, rfl⟩ := List.mem_iff_getElem.mp q2
    have h := hb.2 k (by simpa [atL] using hk)
    rw [← e2, at_get hk, at_get hk] at h
    exact h
def lmV (ns ks : List Int) (lot : List Nat) (a b : List Int) : Int := ks.getD (stepL ns lot a + stepL ns (restL ns.length lot) b).toNat 0
theorem lm_bound {ns a b : List Int} {lot : List Nat} (h1 : ∀ n ∈ ns, 1 ≤ n) (lo : LotOk ns.length lot) (ha : IsS (atL ns lot) a) (hb : IsS (atL ns (restL ns.length lot)) b) : 0 ≤ stepL ns lot a + stepL ns (restL ns.length lot) b ∧ stepL ns lot a + stepL ns (restL ns.length lot) b < prodI ns := by
  obtain ⟨h, e1, e2⟩ := join_is lo ha hb
  have s := step_all lo h.1
  rw [e1, e2] at s
  rw [s]
  have nb := num_bound ns _ 0 1 h.1 h.2 (Int.le_refl _) (by decide)
  exact nb
theorem lm_at {ns ks r : List Int} {lot : List Nat} (lo : LotOk ns.length lot) (h : IsS ns r) : lmV ns ks lot (atL r lot) (atL r (restL ns.length lot)) = fV ns ks r := by
  unfold lmV fV
  rw [step_all lo h.1]
section
variable {P₀ : Program} {w : World} {K : PySem.W.Frag} {mg : Str → Option Value} {base : Heap} {C_Board C_BoardError C_InvalidBoard C_InvalidSetting C_InvalidSize C_InvalidLot : Addr}
abbrev s_lot_marks : Stmt := top 34
abbrev N_lot_marks : List Str := ["board", "lot", "rest", "inner", "outer", "contents", "one", "other"]
abbrev P_lot_marks : List Str := ["board", "lot"]
theorem sc_lot_marks : FnScope N_lot_marks P_lot_marks (defScope s_lot_marks) := ⟨rfl, rfl, rfl, by decide +kernel, rfl, by decide +kernel, by decide +kernel⟩
def rowD (ns ks : List Int) (lot : List Nat) (a : List Int) : D := .tup ((setS (atL ns (restL ns.length lot))).map fun b => .int (lmV ns ks lot a b))
def lmD (ns ks : List Int) (lot : List Nat) : D := .tup ((setS (atL ns lot)).map (rowD ns ks lot))
def sp_lmarks (C_Board : Addr) : DSp := fun ds M Q _ => ∃ (p : Addr) (d : D) (mv : Int) (ns ks : List Int) (lot : List Nat), ds = [.ref p, d] ∧ BdAt C_Board M p mv ns ks ∧ BdF mv ns ks ∧ SqD M d (natD lot) ∧ LotOk ns.length lot ∧ ∀ M', Les M M' → Q (lmD ns ks lot) M'
set_option maxHeartbeats 4000000 in
theorem ok_lmarks {f : Addr} {fd : FuncData} (Dd : Df K mg "lot_marks" s_lot_marks f fd P_lot_marks) (Z : Zs mg) (T : Tc P₀ w K mg base C_Board C_InvalidSize) (G_rest_of : Cal P₀ w K mg base "rest_of" 3 (sp_rest C_Board)) (G_lot_step : Cal P₀ w K mg base "lot_step" 1 (sp_lstep C_Board)) (G_lot_contents : Cal P₀ w K mg base "lot_contents" 2 (sp_cont C_Board)) : FnD P₀ w K mg base 4 f fd P_lot_marks (sp_lmarks C_Board) := by
  refine fn_D Dd.F sc_lot_marks (fun ds M P PE h => ?_) (fun cdv A outer s H E ds M P PE hr tk h => ⟨_, (dss_cons (ds_set 2 sc_lot_marks.nd (de_call G_rest_of (hr.mono (by decide)) tk (da_cons (de_var 0) (da_cons (de_var 1) da_nil))))
    (dss_cons (ds_setLc 3 sc_lot_marks.nd (own := [("contents", 5)]) (di_sq (de_call G_lot_contents (hr.mono (by decide)) tk (da_cons (de_var 0) (da_cons (de_var 1) da_nil)))) (blkOk_by (N := N_lot_marks) (sc := defScope s_lot_marks) (by decide +kernel)) (ct_name 5)
      (fun _ _ _ _ _ => (pg_name (i := 5) sc_lot_marks.nd rfl (.inl rfl))) (fun _ _ _ _ _ => dts_nil) (fun _ _ _ _ _ => (de_call G_lot_step (hr.mono (by decide)) tk0 (da_cons (de_var 0) (da_cons (de_var 1) (da_cons (de_var 5) da_nil))))))
    (dss_cons (ds_set 4 sc_lot_marks.nd (de_lc sc_lot_marks.nd (own := [("contents", 5)]) (di_sq (de_call G_lot_contents (hr.mono (by decide)) tk (da_cons (de_var 0) (da_cons (de_var 2) da_nil)))) (blkOk_by (N := N_lot_marks) (sc := defScope s_lot_marks) (by decide +kernel)) (ct_name 5)
      (fun _ _ _ _ _ => (pg_name (i := 5) sc_lot_marks.nd rfl (.inl rfl))) (fun _ _ _ _ _ => dts_nil) (fun _ _ _ _ _ => (de_call G_lot_step (hr.mono (by decide)) tk0 (da_cons (de_var 0) (da_cons (de_var 2) (da_cons (de_var 5) da_nil)))))))
    (dss_one (ds_ret (de_fnT cr_tup Z.tup (da_cons (de_lc sc_lot_marks.nd (own := [("one", 6)]) (di_sq (de_var 3)) (blkOk_by (N := N_lot_marks) (sc := defScope s_lot_marks) (by decide +kernel)) (ct_name 6)
      (fun _ _ _ _ _ => (pg_name (i := 6) sc_lot_marks.nd rfl (.inr rfl))) (fun _ _ _ _ _ => dts_nil) (fun _ _ _ _ _ => (de_fnT cr_tup Z.tup (da_cons (de_lc sc_lot_marks.nd (own := [("other", 7)]) (di_sq (de_var 4)) (blkOk_by rfl) (ct_name 7)
      (fun _ _ _ _ _ => (pg_name (i := 7) sc_lot_marks.nd rfl (.inl rfl))) (fun _ _ _ _ _ => dts_nil) (fun _ _ _ _ _ => (de_ix (de_fldK K rfl (de_var 0)) (de_op or_add (de_var 6) (de_var 7))))) da_nil)))) da_nil))))))), ?_⟩)
  · obtain ⟨_, _, _, _, _, _, rfl, _⟩ := h
    rfl
  · obtain ⟨p, d, mv, ns, ks, lot, rfl, hp, B, hd, lo, q⟩ := h
    have c := T.i_Board.cl
    have l2 := B.l2
    have ro := rest_ok ns.length lot
    walk_at "w"
    refine ⟨p, d, mv, ns, ks, lot, rfl, hp, hd, by omega, fun N1 L1 => ?_⟩
    have hp1 := L1 _ _ hp
    walk_at "w"
    refine ⟨p, d, mv, ns, ks, lot, rfl, hp1, B, hd.les L1, lo, fun N2 L2 => ?_⟩
    have L12 := L1.trans L2
    walk_at "w"
    have pl := prod_lot lo B.n1
    have pr := prod_lot ro B.n1
    have bp := B.pr
    have la := set_length (ns := atL ns lot) (at_n lo B.n1)
    have lb := set_length (ns := atL ns (restL ns.length lot)) (at_n ro B.n1)
    refine ⟨_, .tup, fun j acc M' => Les M M' ∧ acc = (((setS (atL ns lot)).map (stepL ns lot)).take j).map D.int, ⟨_, .refl _, L12, rfl⟩, fun j acc M' _ _ => .tup, ?_, ?_⟩
    · rintro j u acc M' hu ⟨L, rfl⟩
      rw [List.getElem?_map] at hu
      obtain ⟨a, ha, rfl⟩ := Option.map_eq_some_iff.mp hu
      have hj := (List.getElem?_eq_some_iff.mp ha).1
      have ia := mem_setS.mp (List.mem_of_getElem? ha)
      walk_at "w"
      refine ⟨p, d, tpD a, mv, ns, ks, a, lot, rfl, L _ _ hp, B, hd.les L, .tup, lo, by have := ia.1; simpa [atL] using this, fun M3 L3 => ?_⟩
      refine ⟨size_ok (by simp; omega), _, .refl _, L.trans L3, ?_⟩
      rw [List.take_add_one, List.map_append, List.getElem?_map, ha]
      rfl
    · rintro acc M' ⟨L, rfl⟩ g1 hg1
      rw [List.length_map, List.take_of_length_le (by rw [List.length_map]; exact Nat.le_refl _)]
      have L3 := L.trans (les_new (o := .lst (((setS (atL ns lot)).map (stepL ns lot)).map D.int)) hg1)
      have f1 : upM M' g1 (.lst (((setS (atL ns lot)).map (stepL ns lot)).map D.int)) g1 = some (.lst (((setS (atL ns lot)).map (stepL ns lot)).map D.int)) := upM_same
      generalize upM M' g1 (.lst (((setS (atL ns lot)).map (stepL ns lot)).map D.int)) = N3 at L3 f1 ⊢
      walk_at "w"
      refine ⟨p, .tup (natD (restL ns.length lot)), mv, ns, ks, restL ns.length lot, rfl, L3 _ _ hp, B, .tup, ro, fun N4 L4 => ?_⟩
      have L34 := L3.trans L4
      have f14 := L4 _ _ f1
      walk_at "w"
      refine ⟨_, .tup, fun j acc M' => Les N4 M' ∧ acc = (((setS (atL ns (restL ns.length lot))).map (stepL ns (restL ns.length lot))).take j).map D.int, ⟨_, .refl _, .refl _, rfl⟩, fun j acc M' _ _ => .tup, ?_, ?_⟩
      · rintro j u acc M' hu ⟨L, rfl⟩
        rw [List.getElem?_map] at hu
        obtain ⟨b, hb, rfl⟩ := Option.map_eq_some_iff.mp hu
        have hj := (List.getElem?_eq_some_iff.mp hb).1
        have ib := mem_setS.mp (List.mem_of_getElem? hb)
        walk_at "w"
        refine ⟨p, .tup (natD (restL ns.length lot)), tpD b, mv, ns, ks, b, restL ns.length lot, rfl, (L34.trans L) _ _ hp, B, .tup, .tup, ro, by have := ib.1; simpa [atL] using this, fun M3 L3 => ?_⟩
        refine ⟨size_ok (by simp; omega), _, .refl _, L.trans L3, ?_⟩
        rw [List.take_add_one, List.map_append, List.getElem?_map, hb]
        rfl
      · rintro acc M' ⟨L, rfl⟩ g2 hg2
        rw [List.length_map, List.take_of_length_le (by rw [List.length_map]; exact Nat.le_refl _)]
        have L5 := L.trans (les_new (o := .lst (((setS (atL ns (restL ns.length lot))).map (stepL ns (restL ns.length lot))).map D.int)) hg2)
        have f2 : upM M' g2 (.lst (((setS (atL ns (restL ns.length lot))).map (stepL ns (restL ns.length lot))).map D.int)) g2 = some (.lst (((setS (atL ns (restL ns.length lot))).map (stepL ns (restL ns.length lot))).map D.int)) := upM_same
        generalize upM M' g2 (.lst (((setS (atL ns (restL ns.length lot))).map (stepL ns (restL ns.length lot))).map D.int)) = N5 at L5 f2 ⊢
        have f15 := L5 _ _ f14
        have L45 := L34.trans L5
        walk_at "w"
        refine ⟨_, .ref f15, fun j acc M' => Les N5 M' ∧ acc = ((setS (atL ns lot)).take j).map (rowD ns ks lot), ⟨_, .refl _, .refl _, rfl⟩, fun j acc M' _ ⟨h, _⟩ => .ref (h _ _ f15), ?_, ?_⟩
        · rintro j u acc M' hu ⟨L, rfl⟩
          rw [List.getElem?_map, List.getElem?_map] at hu
          obtain ⟨v, hv, rfl⟩ := Option.map_eq_some_iff.mp hu
          obtain ⟨a, ha, rfl⟩ := Option.map_eq_some_iff.mp hv
          have hj := (List.getElem?_eq_some_iff.mp ha).1
          have ia := mem_setS.mp (List.mem_of_getElem? ha)
          walk_at "w"
          refine ⟨_, .ref (L _ _ f2), fun k acc M2 => M2 = M' ∧ acc = (((setS (atL ns (restL ns.length lot))).take k).map fun b => .int (lmV ns ks lot a b)), ⟨_, .refl _, rfl, rfl⟩, fun k acc M2 _ ⟨h, _⟩ => h ▸ .ref (L _ _ f2), ?_, ?_⟩
          · rintro k u acc M2 hu ⟨rfl, rfl⟩
            rw [List.getElem?_map, List.getElem?_map] at hu
            obtain ⟨v, hv, rfl⟩ := Option.map_eq_some_iff.mp hu
            obtain ⟨b, hb, rfl⟩ := Option.map_eq_some_iff.mp hv
            have hk := (List.getElem?_eq_some_iff.mp hb).1
            have ib := mem_setS.mp (List.mem_of_getElem? hb)
            obtain ⟨b1, b2⟩ := lm_bound B.n1 lo ia ib
            have en : (((stepL ns lot a + stepL ns (restL ns.length lot) b).toNat : Nat) : Int) = stepL ns lot a + stepL ns (restL ns.length lot) b := Int.toNat_of_nonneg b1
            have g1 := atI_nat (ints_getD (ns := ks) (i := (stepL ns lot a + stepL ns (restL ns.length lot) b).toNat) (by have := B.len; omega))
            rw [en] at g1
            walk_at "w"
            refine ⟨p, _, _, _, rfl, (L45.trans L) _ _ hp, c, T.na_marks, rfl, ?_⟩
            walk_at "w"
            refine .inl ⟨_, _, _, .tup, rfl, g1, ?_⟩
            refine ⟨size_ok (by simp; omega), _, .refl _, rfl, ?_⟩
            rw [List.take_add_one, List.map_append, hb]
            rfl
          · rintro acc M2 ⟨rfl, rfl⟩ g4 hg4
            rw [List.length_map, List.length_map, List.take_length]
            refine ⟨_, .ref upM_same, ?_⟩
            refine ⟨size_ok (by simp; omega), _, .refl _, L.trans (les_new hg4), ?_⟩
            rw [List.take_add_one, List.map_append, ha]
            rfl
        · rintro acc M' ⟨L, rfl⟩ g3 hg3
          rw [List.length_map, List.length_map, List.take_length]
          refine ⟨_, .ref upM_same, ?_⟩
          exact Lk.of (q _ (L45.trans (L.trans (les_new hg3))))
end
end K83
set_option linter.all false
namespace K83
open PySem PySem.Spec PyProof.Rows L2 DL
local macro_rules | `(tactic| walk_at "w") => `(tactic| conv => whnf)
/-- a deal at p: its cells at q -/
def Dl (M : DHp) (p q : Addr) : Prop := ∃ (cs : List Int) (b : Int), M p = some (.lst [.ref q, .int b]) ∧ M q = some (.lst (cs.map D.int)) ∧ p ≠ q ∧ cs.length ≤ 100000 ∧ 0 ≤ b ∧ b < 2147483563
/-- what is told beside the deal -/
structure Rs (N M : DHp) (p q : Addr) : Prop where
  l : Les N M
  np : N p = none
  nq : N q = none
  d : Dl M p q
theorem Rs.to {N M M' : DHp} {p q : Addr} (r : Rs N M p q) (l : Les M M') : Rs N M' p q := by
  obtain ⟨cs, b, h1, h2, h3⟩ := r.d
  exact ⟨r.l.trans l, r.np, r.nq, cs, b, l _ _ h1, l _ _ h2, h3⟩
theorem Rs.les {N N' M : DHp} {p q : Addr} (r : Rs N M p q) (l : Les N' N) : Rs N' M p q := ⟨l.trans r.l, l.free r.np, l.free r.nq, r.d⟩
theorem Rs.nep {N M : DHp} {p q e : Addr} (r : Rs N M p q) (h : M e = none) : e ≠ p ∧ e ≠ q ∧ N e = none := by
  obtain ⟨cs, b, h1, h2, _⟩ := r.d
  exact ⟨fun z => (by rw [z, h1] at h; cases h), fun z => (by rw [z, h2] at h; cases h), r.l.free h⟩
theorem Rs.new {N M : DHp} {p q e : Addr} {o : DO} (r : Rs N M p q) (h : M e = none) : Rs (upM N e o) (upM M e o) p q := by
  obtain ⟨e1, e2, _⟩ := r.nep h
  refine ⟨les_same r.l, by rw [upM_ne (Ne.symm e1)]; exact r.np, by rw [upM_ne (Ne.symm e2)]; exact r.nq, ?_⟩
  exact (r.to (les_new h)).d
theorem Rs.newl {N M : DHp} {p q e : Addr} {o : DO} (r : Rs N M p q) (h : M e = none) : Les N (upM N e o) := les_new (r.nep h).2.2
/-- a told thing changed that is no deal -/
theorem Rs.put {N M : DHp} {p q e : Addr} {o u : DO} (r : Rs N M p q) (h : N e = some u) : Rs (upM N e o) (upM M e o) p q := by
  obtain ⟨cs, b, h1, h2, h3⟩ := r.d
  have e1 : p ≠ e := fun z => by rw [← z, r.np] at h; cases h
  have e2 : q ≠ e := fun z => by rw [← z, r.nq] at h; cases h
  refine ⟨les_same r.l, by rw [upM_ne e1]; exact r.np, by rw [upM_ne e2]; exact r.nq, cs, b, by rw [upM_ne e1]; exact h1, by rw [upM_ne e2]; exact h2, h3⟩
theorem Rs.sq {N M : DHp} {p q : Addr} {d : D} {ds : List D} (r : Rs N M p q) (h : SqD N d ds) : SqD M d ds := h.les r.l
theorem shaped_li (a : List Int) : SeqAt.shaped (.list (a.map PyData.int)) = true := shaped_lt (shaped_tup a)
theorem eqv_e (l : List PyData) : PyData.eqv (.list l) (.list []) = decide (l = []) := by
  cases l with
  | nil => simp [PyData.eqv, PyData.eqvAll]
  | cons a l => simp [PyData.eqv, PyData.eqvAll]
/-- xs != [] of ints -/
theorem ne_e {M : DHp} {a b : Addr} {l : List Int} {Q : Bool → DHp → Prop} (ha : M a = some (.lst (l.map D.int))) (hb : M b = some (.lst [])) (q : Q (!decide (l = [])) M) : neD (.ref a) (.ref b) M Q := by
  refine ⟨_, _, .lst (.inl ha) (pd_ints l), .lst (.inl hb) .nil, shaped_li l, shaped_li [], ?_⟩
  rw [if_pos rfl, eqv_e]
  have e : decide (l.map PyData.int = []) = decide (l = []) := by cases l <;> simp
  rw [e]
  exact q
theorem last_at {l : List Int} (h : l ≠ []) : atI (l.map D.int) (-1) = some (.int (l.getLast h)) := by
  have hl : 0 < l.length := List.length_pos_iff.mpr h
  have e : ixN (l.map D.int).length (-1) = some (l.length - 1) := by
    unfold ixN
    rw [List.length_map]
    simp
    omega
  unfold atI
  rw [e]
  show (l.map D.int)[l.length - 1]? = _
  rw [List.getElem?_map, List.getElem?_eq_getElem (by omega), List.getLast_eq_getElem]
  rfl
section
variable {P₀ : Program} {w : World} {K : PySem.W.Frag} {mg : Str → Option Value} {base : Heap}
abbrev s__law_draw : Stmt := top 46
abbrev N__law_draw : List Str := ["deal", "bound", "rest"]
abbrev P__law_draw : List Str := ["deal", "bound"]
theorem sc__law_draw : FnScope N__law_draw P__law_draw (defScope s__law_draw) := ⟨rfl, rfl, rfl, by decide +kernel, rfl, by decide +kernel, by decide +kernel⟩
def sp_draw : DSp := fun ds M Q _ => ∃ (p q : Addr) (n : Int) (N : DHp), ds = [.ref p, .int n] ∧ Rs N M p q ∧ 0 < n ∧ n < 1073741824 ∧ ∀ r M', Rs N M' p q → 0 ≤ r → r < n → Q (.int r) M'
theorem ok_draw {f : Addr} {fd : FuncData} (Dd : Df K mg "_law_draw" s__law_draw f fd P__law_draw) (Z : Zs mg) : Cal P₀ w K mg base "_law_draw" 1 sp_draw := by
  refine Dd.cal sc__law_draw (fun ds M P PE h => ?_) (fun cdv A outer s H E ds M P PE hr tk h => ⟨_, (dss_cons (ds_while (passes_of rfl) (DW.dt (dw_and (dt_cmp (or_ne hr.r.units) (de_ix (de_var 0) de_int) (de_lst da_nil)) (dw_and1 (dt_cmp (or_eq hr.r.units) (de_ix (de_ix (de_var 0) de_int) (de_neg de_int)) de_int)))) (dss_one (ds_expr (de_mt0 PySem.F.slot_list_pop PySem.F.type_list_pop mt_popD (de_ix (de_var 0) de_int)))))
    (dss_cons (ds_if (dt_cmp (or_ne hr.r.units) (de_ix (de_var 0) de_int) (de_lst da_nil)) (dss_cons (ds_set 2 sc__law_draw.nd (de_mt0 PySem.F.slot_list_pop PySem.F.type_list_pop mt_popD (de_ix (de_var 0) de_int)))
    (dss_cons (ds_expr (de_mt PySem.F.slot_list_append PySem.F.type_list_append mt_app (de_ix (de_var 0) de_int) (da_cons (de_op or_fdv (de_var 2) (de_var 1)) da_nil)))
    (dss_one (ds_ret (de_op or_mod (de_fnT cr_int Z.int (da_cons (de_var 2) da_nil)) (de_var 1)))))) dss_nil)
    (dss_cons (ds_asg (de_op or_mod (de_fnT cr_int Z.int (da_cons (de_op or_add (de_op or_mul (de_ix (de_var 0) de_int) de_int) de_int) da_nil)) de_int) (dg_sub (de_var 0) de_int))
    (dss_one (ds_ret (de_op or_mod (de_fnT cr_int Z.int (da_cons (de_op or_fdv (de_ix (de_var 0) de_int) de_int) da_nil)) (de_var 1))))))), ?_⟩)
  · obtain ⟨_, _, _, _, rfl, _⟩ := h
    rfl
  · obtain ⟨p, q, n, N, rfl, R, h1, h2, qq⟩ := h
    walk_at "w"
    obtain ⟨cs, b, hp, hq, npq, hl, b1, b2⟩ := id R.d
    refine ⟨fun j s M' => Rs N M' p q ∧ (∃ cs b, M' p = some (.lst [.ref q, .int b]) ∧ M' q = some (.lst (cs.map D.int)) ∧ p ≠ q ∧ cs.length ≤ 100000 ∧ 0 ≤ b ∧ b < 2147483563 ∧ cs.length = j) ∧ s = [some (.ref p), some (.int n), none], cs.length, .of ⟨R, ⟨cs, b, hp, hq, npq, hl, b1, b2, rfl⟩, rfl⟩, ?_⟩
    rintro j s M' ⟨R', ⟨cs, b, hp, hq, npq, hl, b1, b2, hj⟩, rfl⟩
    walk_at "w"
    refine .inl ⟨_, 0, .ref q, .ref hp, rfl, rfl, ?_⟩
    walk_at "w"
    refine ⟨Nat.zero_le _, fun e he => ?_⟩
    have Le := les_new (o := .lst []) he
    have R2 := R'.to Le
    have hp2 := Le _ _ hp
    have hq2 := Le _ _ hq
    have fe : upM M' e (.lst []) e = some (.lst []) := upM_same
    generalize upM M' e (.lst []) = M2 at Le R2 hp2 hq2 fe ⊢
    refine ne_e hq2 fe ?_
    have rest : sSeq (sIf (tCmp neD (dOp ixD (dVar 0) (dC (D.int 0))) (dLst aNil))
          (sSeq (sAsg (dMt popD (dOp ixD (dVar 0) (dC (D.int 0))) aNil) (gNm 2))
            (sSeq (sDrop (dMt appD (dOp ixD (dVar 0) (dC (D.int 0))) (aCons (dOp fdvD (dVar 2) (dVar 1)) aNil)))
              (sRet (dOp modD (dFn DL.intD (aCons (dVar 2) aNil)) (dVar 1)))))
          sNext)
        (sSeq (sAsg (dOp modD (dFn DL.intD (aCons (dOp addD (dOp mulD (dOp ixD (dVar 0) (dC (D.int 1))) (dC (D.int 40014))) (dC (D.int 73))) aNil)) (dC (D.int 2147483563))) (gSb (dVar 0) (dC (D.int 1))))
          (sRet (dOp modD (dFn DL.intD (aCons (dOp fdvD (dOp ixD (dVar 0) (dC (D.int 1))) (dC (D.int 128))) aNil)) (dVar 1))))
        { nx := fun x M' => Lk P D.non M', rt := Lk P } [some (.ref p), some (.int n), none] M2 := by
      walk_at "w"
      refine .inl ⟨_, 0, .ref q, .ref hp2, rfl, rfl, ?_⟩
      walk_at "w"
      refine ⟨Nat.zero_le _, fun g hg => ?_⟩
      have Lg := les_new (o := .lst []) hg
      have R3 := R2.to Lg
      have hp3 := Lg _ _ hp2
      have hq3 := Lg _ _ hq2
      have fg : upM M2 g (.lst []) g = some (.lst []) := upM_same
      generalize upM M2 g (.lst []) = M3 at Lg R3 hp3 hq3 fg ⊢
      refine ne_e hq3 fg ?_
      have hq3' : M3 q = some (.lst (cs.map D.int)) := hq3
      refine ifB_mk (fun h3 => ?_) (fun h3 => ?_)
      · have ne : cs ≠ [] := by simpa using h3
        have hl0 : 0 < cs.length := List.length_pos_iff.mpr ne
        walk_at "w"
        refine .inl ⟨_, 0, .ref q, .ref hp3, rfl, rfl, ?_⟩
        walk_at "w"
        refine ⟨⟨q, _, rfl, .inl hq3⟩, ?_⟩
        refine ⟨q, .int (cs.getLast ne), _, rfl, rfl, hq3, ?_, ?_⟩
        · rw [List.length_map, List.getElem?_map, List.getElem?_eq_getElem (by omega), List.getLast_eq_getElem]
          rfl
        have R4 : Rs N (upM M3 q (.lst (cs.map D.int).dropLast)) p q := ⟨fun a o ha => by rw [upM_ne (fun z => by rw [z, R.nq] at ha; cases ha)]; exact R3.l _ _ ha, R.np, R.nq, cs.dropLast, b, by rw [upM_ne npq]; exact hp3, by rw [upM_same, List.map_dropLast], npq, by rw [List.length_dropLast]; omega, b1, b2⟩
        have hp4 : upM M3 q (.lst (cs.map D.int).dropLast) p = some (.lst [.ref q, .int b]) := by rw [upM_ne npq]; exact hp3
        have hq4 : upM M3 q (.lst (cs.map D.int).dropLast) q = some (.lst (cs.dropLast.map D.int)) := by rw [upM_same, List.map_dropLast]
        generalize cs.getLast ne = c
        generalize upM M3 q (.lst (cs.map D.int).dropLast) = M4 at R4 hp4 hq4 ⊢
        walk_at "w"
        refine .inl ⟨_, 0, .ref q, .ref hp4, rfl, rfl, ?_⟩
        walk_at "w"
        refine ⟨⟨q, _, rfl, .inl hq4⟩, ?_⟩
        walk_at "w"
        refine ⟨⟨h1, h2⟩, ?_⟩
        refine ⟨q, _, _, rfl, rfl, hq4, size_ok (by simp; omega), ?_⟩
        walk_at "w"
        refine ⟨h1, ?_⟩
        refine Lk.of (qq _ _ ⟨fun a o ha => by rw [upM_ne (fun z => by rw [z, R.nq] at ha; cases ha)]; exact R4.l _ _ ha, R.np, R.nq, cs.dropLast ++ [c / n], b, by rw [upM_ne npq]; exact hp4, by rw [upM_same, List.map_append]; rfl, npq, by simp; omega, b1, b2⟩ (Int.emod_nonneg _ (by omega)) (Int.emod_lt_of_pos _ h1))
      · walk_at "w"
        refine .inl ⟨_, 1, .int b, .ref hp3, rfl, rfl, ?_⟩
        walk_at "w"
        refine ⟨.inr ⟨by decide, by decide⟩, ?_⟩
        walk_at "w"
        refine ⟨by decide, ?_⟩
        walk_at "w"
        refine ⟨_, _, hp3, rfl, ?_⟩
        have nn := Int.emod_nonneg (b * 40014 + 73) (show (2147483563 : Int) ≠ 0 by decide)
        have nl := Int.emod_lt_of_pos (b * 40014 + 73) (show (0 : Int) < 2147483563 by decide)
        generalize (b * 40014 + 73) % 2147483563 = b' at nn nl ⊢
        have R4 : Rs N (upM M3 p (.lst [.ref q, .int b'])) p q := ⟨fun a o ha => by rw [upM_ne (fun z => by rw [z, R.np] at ha; cases ha)]; exact R3.l _ _ ha, R.np, R.nq, cs, b', upM_same, by rw [upM_ne (Ne.symm npq)]; exact hq3, npq, hl, nn, nl⟩
        have hp4 : upM M3 p (.lst [.ref q, .int b']) p = some (.lst [.ref q, .int b']) := upM_same
        rw [show ([D.ref q, D.int b] : List D).set (Int.toNat 1) (D.int b') = [D.ref q, D.int b'] from rfl]
        generalize upM M3 p (.lst [.ref q, .int b']) = M4 at R4 hp4 ⊢
        walk_at "w"
        refine .inl ⟨_, 1, .int b', .ref hp4, rfl, rfl, ?_⟩
        walk_at "w"
        refine ⟨⟨by decide, by decide⟩, ?_⟩
        walk_at "w"
        refine ⟨h1, ?_⟩
        exact Lk.of (qq _ _ R4 (Int.emod_nonneg _ (by omega)) (Int.emod_lt_of_pos _ h1))
    refine ifB_mk (fun h3 => ?_) (fun h3 => ?_)
    · have ne : cs ≠ [] := by simpa using h3
      have hl0 : 0 < cs.length := List.length_pos_iff.mpr ne
      walk_at "w"
      refine .inl ⟨_, 0, .ref q, .ref hp2, rfl, rfl, ?_⟩
      walk_at "w"
      refine .inl ⟨_, -1, _, .ref hq2, rfl, last_at ne, ?_⟩
      walk_at "w"
      refine ifB_mk (fun h4 => ?_) (fun h4 => ?_)
      · walk_at "w"
        refine .inl ⟨_, 0, .ref q, .ref hp2, rfl, rfl, ?_⟩
        walk_at "w"
        refine ⟨⟨q, _, rfl, .inl hq2⟩, ?_⟩
        refine ⟨q, .int (cs.getLast ne), _, rfl, rfl, hq2, ?_, ?_⟩
        · rw [List.length_map, List.getElem?_map, List.getElem?_eq_getElem (by omega), List.getLast_eq_getElem]
          rfl
        refine .of ⟨cs.dropLast.length, by rw [List.length_dropLast]; omega, ⟨fun a o ha => by rw [upM_ne (fun z => by rw [z, R.nq] at ha; cases ha)]; exact R2.l _ _ ha, R.np, R.nq, cs.dropLast, b, by rw [upM_ne npq]; exact hp2, by rw [upM_same, List.map_dropLast], npq, by rw [List.length_dropLast]; omega, b1, b2⟩, ⟨cs.dropLast, b, by rw [upM_ne npq]; exact hp2, by rw [upM_same, List.map_dropLast], npq, by rw [List.length_dropLast]; omega, b1, b2, rfl⟩, rfl⟩
      · exact rest
    · exact rest
end
end K83
set_option linter.all false
namespace K83
open PySem PySem.Spec PyProof.Rows L2 DL
local macro_rules | `(tactic| walk_at "w") => `(tactic| conv => whnf)
/-- data with nothing at an address -/
def Pu (d : D) : Prop := ∃ z, (∀ M, Pd M d z) ∧ z.canLay0 = true ∧ z.depth ≤ 50
theorem pu_int (i : Int) : Pu (.int i) := ⟨.int i, fun M => .int i, by simp only [PyData.canLay0], by simp only [PyData.depth]; omega⟩
theorem pus_pds : ∀ {ds : List D}, (∀ d ∈ ds, Pu d) → ∃ zs, (∀ M, Pds M ds zs) ∧ PyData.canLayAll0 zs = true ∧ PyData.depthAll zs ≤ 50 ∧ zs.length = ds.length
  | [], _ => ⟨[], fun M => .nil, by simp [PyData.canLayAll0], by simp [PyData.depthAll], rfl⟩
  | d :: ds, h => by
    obtain ⟨z, a, b, c⟩ := h d List.mem_cons_self
    obtain ⟨zs, a2, b2, c2, e⟩ := pus_pds (ds := ds) fun x hx => h x (List.mem_cons_of_mem _ hx)
    exact ⟨z :: zs, fun M => .cons (a M) (a2 M), by simp [PyData.canLayAll0, b, b2], by simp only [PyData.depthAll]; omega, by simp [e]⟩
theorem pu_shaped {zs : List PyData} (a : PyData.canLayAll0 zs = true) (b : PyData.depthAll zs ≤ 50) : SeqAt.shaped (.list zs) = true := by
  refine shaped_lt ?_
  unfold SeqAt.shaped
  rw [Bool.and_eq_true]
  exact ⟨by simp only [PyData.canLay0]; exact a, decide_eq_true (by simp only [PyData.depth]; omega)⟩
/-- xs != [] of data -/
theorem ne_pu {M : DHp} {a b : Addr} {l : List D} {Q : Bool → DHp → Prop} (hl : ∀ d ∈ l, Pu d) (ha : M a = some (.lst l)) (hb : M b = some (.lst [])) (q : Q (!decide (l = [])) M) : neD (.ref a) (.ref b) M Q := by
  obtain ⟨zs, h1, h2, h3, h4⟩ := pus_pds hl
  refine ⟨_, _, .lst (.inl ha) (h1 M), .lst (.inl hb) .nil, pu_shaped h2 h3, shaped_li [], ?_⟩
  rw [if_pos rfl, eqv_e]
  have e : decide (zs = []) = decide (l = []) := by
    cases l <;> cases zs <;> simp at h4 ⊢
  rw [e]
  exact q
theorem cut_ints (ns : List Int) (lo hi : Option Int) : ∃ ms : List Int, DL.cutD (ns.map D.int) lo hi = ms.map D.int ∧ ms.length ≤ ns.length := by
  refine ⟨(ns.drop (HT.sIx ns.length 0 lo)).take (HT.sIx ns.length ns.length hi - HT.sIx ns.length 0 lo), ?_, by rw [List.length_take, List.length_drop]; omega⟩
  unfold DL.cutD
  simp only [List.length_map, List.map_take, List.map_drop]
section
variable {P₀ : Program} {w : World} {K : PySem.W.Frag} {mg : Str → Option Value} {base : Heap}
abbrev s__law_pick : Stmt := top 47
abbrev N__law_pick : List Str := ["deal", "some"]
abbrev P__law_pick : List Str := ["deal", "some"]
theorem sc__law_pick : FnScope N__law_pick P__law_pick (defScope s__law_pick) := ⟨rfl, rfl, rfl, by decide +kernel, rfl, by decide +kernel, by decide +kernel⟩
def sp_lpick : DSp := fun ds M Q _ => ∃ (p q : Addr) (d : D) (xs : List D) (N : DHp), ds = [.ref p, d] ∧ Rs N M p q ∧ SqD N d xs ∧ 0 < xs.length ∧ xs.length < 1073741824 ∧ ∀ v M', Rs N M' p q → v ∈ xs → Q v M'
theorem ok_lpick {f : Addr} {fd : FuncData} (Dd : Df K mg "_law_pick" s__law_pick f fd P__law_pick) (Z : Zs mg) (G__law_draw : Cal P₀ w K mg base "_law_draw" 1 sp_draw) : Cal P₀ w K mg base "_law_pick" 2 sp_lpick := by
  refine Dd.cal sc__law_pick (fun ds M P PE h => ?_) (fun cdv A outer s H E ds M P PE hr tk h => ⟨_, (dss_one (ds_ret (de_ix (de_var 1) (de_call G__law_draw (hr.mono (by decide)) tk (da_cons (de_var 0) (da_cons (de_fnB cr_len Z.len (da_cons (de_var 1) da_nil)) da_nil)))))), ?_⟩)
  · obtain ⟨_, _, _, _, _, rfl, _⟩ := h
    rfl
  · obtain ⟨p, q, d, xs, N, rfl, R, hd, l1, l2, qq⟩ := h
    walk_at "w"
    refine .inl ⟨_, R.sq hd, ?_⟩
    walk_at "w"
    refine ⟨p, q, _, N, rfl, R, by omega, by omega, fun r M' R' r1 r2 => ?_⟩
    obtain ⟨j, rfl⟩ : ∃ j : Nat, r = j := ⟨r.toNat, by omega⟩
    have h : j < xs.length := by omega
    refine .inl ⟨_, _, xs[j], R'.sq hd, rfl, atI_nat (List.getElem?_eq_getElem h), ?_⟩
    exact Lk.of (qq _ _ R' (List.getElem_mem h))
abbrev s__law_mixed : Stmt := top 48
abbrev N__law_mixed : List Str := ["deal", "things", "left", "found"]
abbrev P__law_mixed : List Str := ["deal", "things"]
theorem sc__law_mixed : FnScope N__law_mixed P__law_mixed (defScope s__law_mixed) := ⟨rfl, rfl, rfl, by decide +kernel, rfl, by decide +kernel, by decide +kernel⟩
theorem erase_perm {α : Type} : ∀ {l : List α} {i : Nat} {x : α}, l[i]? = some x → (x :: l.eraseIdx i).Perm l
  | [], i, x, h => by simp at h
  | a :: l, 0, x, h => by
    have h : some a = some x := h
    cases h
    exact .refl _
  | a :: l, i + 1, x, h => ((List.Perm.swap a x _).trans ((erase_perm (l := l) (i := i) (by simpa using h)).cons a))
def sp_mixed : DSp := fun ds M Q _ => ∃ (p q : Addr) (d : D) (xs : List D) (N : DHp), ds = [.ref p, d] ∧ Rs N M p q ∧ SqD N d xs ∧ (∀ x ∈ xs, Pu x) ∧ xs.length < 100000 ∧ ∀ e ys N' M', ys.Perm xs → Les N N' → N e = none → N' e = some (.lst ys) → Rs N' M' p q → Q (.ref e) M'
theorem ok_mixed {f : Addr} {fd : FuncData} (Dd : Df K mg "_law_mixed" s__law_mixed f fd P__law_mixed) (Z : Zs mg) (G__law_draw : Cal P₀ w K mg base "_law_draw" 1 sp_draw) : Cal P₀ w K mg base "_law_mixed" 2 sp_mixed := by
  refine Dd.cal sc__law_mixed (fun ds M P PE h => ?_) (fun cdv A outer s H E ds M P PE hr tk h => ⟨_, (dss_cons (ds_par2 2 3 sc__law_mixed.nd (da_cons (de_fnT cr_lst Z.lst (da_cons (de_var 1) da_nil)) (da_cons (de_lst da_nil) da_nil)))
    (dss_cons (ds_while (passes_of rfl) (dt_cmp (or_ne hr.r.units) (de_var 2) (de_lst da_nil)) (dss_one (ds_expr (de_mt PySem.F.slot_list_append PySem.F.type_list_append mt_app (de_var 3) (da_cons (de_mt PySem.F.slot_list_pop PySem.F.type_list_pop mt_popI (de_var 2) (da_cons (de_call G__law_draw (hr.mono (by decide)) tk (da_cons (de_var 0) (da_cons (de_fnB cr_len Z.len (da_cons (de_var 2) da_nil)) da_nil))) da_nil)) da_nil)))))
    (dss_one (ds_ret (de_var 3))))), ?_⟩)
  · obtain ⟨_, _, _, _, _, rfl, _⟩ := h
    rfl
  · obtain ⟨p, q, d, xs, N, rfl, R, hd, hx, l1, qq⟩ := h
    walk_at "w"
    refine ⟨_, R.sq hd, fun a ha => ?_⟩
    have Ra := R.new (o := .lst xs) ha
    have La := R.newl (o := .lst xs) ha
    have fa : upM N a (.lst xs) a = some (.lst xs) := upM_same
    have na := (R.nep ha).2.2
    generalize upM N a (.lst xs) = N1 at Ra La fa
    generalize upM M a (.lst xs) = M1 at Ra ⊢
    walk_at "w"
    refine ⟨Nat.zero_le _, fun b hb => ?_⟩
    have Rb := Ra.new (o := .lst []) hb
    have Lb := Ra.newl (o := .lst []) hb
    have fb : upM N1 b (.lst []) b = some (.lst []) := upM_same
    have nb := (Ra.nep hb).2.2
    have fa2 := Lb _ _ fa
    have ba : b ≠ a := fun z => by rw [z, fa] at nb; cases nb
    have L := La.trans Lb
    have nb0 := La.free nb
    generalize upM N1 b (.lst []) = N2 at Rb fb fa2 L Lb
    generalize upM M1 b (.lst []) = M2 at Rb ⊢
    walk_at "w"
    refine ⟨fun j s M' => ∃ N3 us ys, Les N N3 ∧ Rs N3 M' p q ∧ N3 a = some (.lst us) ∧ N3 b = some (.lst ys) ∧ (us ++ ys).Perm xs ∧ us.length = j ∧ s = [some (.ref p), some d, some (.ref a), some (.ref b)], xs.length, .of ⟨N2, xs, [], L, Rb, fa2, fb, by rw [List.append_nil], rfl, rfl⟩, ?_⟩
    rintro j s M' ⟨N3, us, ys, L3, R3, ha3, hb3, pm, hj, rfl⟩
    walk_at "w"
    refine ⟨Nat.zero_le _, fun e he => ?_⟩
    have Re := R3.new (o := .lst []) he
    have Le := R3.newl (o := .lst []) he
    have ne := (R3.nep he).2.2
    have fe : upM N3 e (.lst []) e = some (.lst []) := upM_same
    have ha4 := Le _ _ ha3
    have hb4 := Le _ _ hb3
    have L4 := L3.trans Le
    generalize upM N3 e (.lst []) = N4 at Re Le fe ha4 hb4 L4
    generalize upM M' e (.lst []) = M4 at Re ⊢
    have hu : ∀ x ∈ us, Pu x := fun x h => hx x (pm.subset (List.mem_append_left _ h))
    have len : us.length + ys.length = xs.length := by rw [← pm.length_eq, List.length_append]
    refine ne_pu hu (Re.l _ _ ha4) (Re.l _ _ fe) ?_
    refine ifB_mk (fun h3 => ?_) (fun h3 => ?_)
    · have ne : us ≠ [] := by simpa using h3
      have hl0 : 0 < us.length := List.length_pos_iff.mpr ne
      walk_at "w"
      refine ⟨⟨b, _, rfl, .inl (Re.l _ _ hb4)⟩, ?_⟩
      walk_at "w"
      refine ⟨⟨a, _, rfl, .inl (Re.l _ _ ha4)⟩, ?_⟩
      walk_at "w"
      refine .inl ⟨_, .ref (Re.l _ _ ha4), ?_⟩
      walk_at "w"
      refine ⟨p, q, _, N4, rfl, Re, by omega, by omega, fun r M5 R5 r1 r2 => ?_⟩
      obtain ⟨i, rfl⟩ : ∃ i : Nat, r = i := ⟨r.toNat, by omega⟩
      have h : i < us.length := by omega
      refine ⟨a, i, us[i], us, rfl, rfl, R5.l _ _ ha4, List.getElem?_eq_getElem h, by omega, ?_⟩
      have R6 := R5.put (o := .lst (us.eraseIdx i)) ha4
      have hb6 : upM N4 a (.lst (us.eraseIdx i)) b = some (.lst ys) := by rw [upM_ne ba]; exact hb4
      have ha6 : upM N4 a (.lst (us.eraseIdx i)) a = some (.lst (us.eraseIdx i)) := upM_same
      have L6 : Les N (upM N4 a (.lst (us.eraseIdx i))) := fun c o hc => by rw [upM_ne (fun z => by rw [z, na] at hc; cases hc)]; exact L4 _ _ hc
      generalize upM N4 a (.lst (us.eraseIdx i)) = N6 at R6 hb6 ha6 L6
      generalize upM M5 a (.lst (us.eraseIdx i)) = M6 at R6 ⊢
      refine ⟨b, us[i], ys, rfl, rfl, R6.l _ _ hb6, size_ok (by omega), ?_⟩
      refine .of ⟨(us.eraseIdx i).length, by rw [List.length_eraseIdx]; simp [h]; omega, upM N6 b (.lst (ys ++ [us[i]])), us.eraseIdx i, ys ++ [us[i]], fun c o hc => by rw [upM_ne (fun z => by rw [z, nb0] at hc; cases hc)]; exact L6 _ _ hc, R6.put hb6, by rw [upM_ne (Ne.symm ba)]; exact ha6, upM_same, ?_, rfl, rfl⟩
      have e1 : (us.eraseIdx i ++ (ys ++ [us[i]])).Perm (us.eraseIdx i ++ us[i] :: ys) := (List.perm_append_comm).append_left _
      have e2 : (us.eraseIdx i ++ us[i] :: ys).Perm (us[i] :: us.eraseIdx i ++ ys) := List.perm_middle
      have e3 : (us[i] :: us.eraseIdx i ++ ys).Perm (us ++ ys) := (erase_perm (List.getElem?_eq_getElem h)).append_right _
      exact ((e1.trans e2).trans e3).trans pm
    · have e0 : us = [] := by simpa using h3
      subst e0
      walk_at "w"
      exact Lk.of (qq b ys N4 _ pm L4 nb0 hb4 Re)
abbrev s__law_deal : Stmt := top 45
abbrev N__law_deal : List Str := ["script", "base", "cells", "blend", "cell"]
abbrev P__law_deal : List Str := ["script", "base"]
theorem sc__law_deal : FnScope N__law_deal P__law_deal (defScope s__law_deal) := ⟨rfl, rfl, rfl, by decide +kernel, rfl, by decide +kernel, by decide +kernel⟩
def sp_deal : DSp := fun ds M Q _ => ∃ (a : Addr) (k : Nat) (ns : List Int), ds = [.ref a, .int (k : Nat)] ∧ M a = some (.frz (ns.map D.int)) ∧ k < 1000 ∧ ns.length ≤ 100 ∧ ∀ p q M', Les M M' → Rs M M' p q → Q (.ref p) M'
theorem ok_deal {f : Addr} {fd : FuncData} (Dd : Df K mg "_law_deal" s__law_deal f fd P__law_deal) (Z : Zs mg) : Cal P₀ w K mg base "_law_deal" 1 sp_deal := by
  refine Dd.cal sc__law_deal (fun ds M P PE h => ?_) (fun cdv A outer s H E ds M P PE hr tk h => ⟨_, (dss_cons (ds_setLc 2 sc__law_deal.nd (own := [("cell", 4)]) (di_sq (de_sl (de_var 0) (dpo_some (de_var 1)) (dpo_some de_int))) (blkOk_by (N := N__law_deal) (sc := defScope s__law_deal) (by decide +kernel)) (ct_name 4)
      (fun _ _ _ _ _ => (pg_name (i := 4) sc__law_deal.nd rfl (.inl rfl))) (fun _ _ _ _ _ => dts_nil) (fun _ _ _ _ _ => (de_fnB cr_abs Z.abs (da_cons (de_fnT cr_int Z.int (da_cons (de_var 4) da_nil)) da_nil))))
    (dss_cons (ds_set 3 sc__law_deal.nd (de_op or_add de_int (de_op or_mul de_int (de_var 1))))
    (dss_cons (ds_for (passes_of rfl) (di_sq (de_var 2)) (dg_name 4 sc__law_deal.nd) (dss_one (ds_set 3 sc__law_deal.nd (de_op or_mod (de_fnT cr_int Z.int (da_cons (de_op or_add (de_op or_add (de_op or_mul (de_var 3) de_int) (de_op or_mod (de_fnT cr_int Z.int (da_cons (de_var 4) da_nil)) de_int)) de_int) da_nil)) de_int))))
    (dss_one (ds_ret (de_lst (da_cons (de_rev (de_lc sc__law_deal.nd (own := [("cell", 4)]) (di_sq (de_var 2)) (blkOk_by (N := N__law_deal) (sc := defScope s__law_deal) (by decide +kernel)) (ct_name 4)
      (fun _ _ _ _ _ => (pg_name (i := 4) sc__law_deal.nd rfl (.inl rfl))) (fun _ _ _ _ _ => (dts_one (dt_cmp or_ge (de_var 4) (de_op or_pow de_int de_int)))) (fun _ _ _ _ _ => (de_var 4)))) (da_cons (de_var 3) da_nil)))))))), ?_⟩)
  · obtain ⟨_, _, _, rfl, _⟩ := h
    rfl
  · obtain ⟨a, k, ns, rfl, ha, hk, hl, qq⟩ := h
    walk_at "w"
    refine ⟨_, rfl, ?_⟩
    walk_at "w"
    refine ⟨57, rfl, ?_⟩
    walk_at "w"
    refine ⟨_, .inr ha, fun b hb => ?_⟩
    obtain ⟨ms, e1, e2⟩ := cut_ints ns (some (k : Int)) (some 57)
    rw [e1]
    have Lb := les_new (o := .lst (ms.map D.int)) hb
    have fb : upM M b (.lst (ms.map D.int)) b = some (.lst (ms.map D.int)) := upM_same
    generalize upM M b (.lst (ms.map D.int)) = M1 at Lb fb ⊢
    refine ⟨_, .ref fb, fun i acc M' => M' = M1 ∧ acc = ((ms.map fun c => if c < 0 then -c else c).take i).map D.int, ⟨_, .refl _, rfl, rfl⟩, fun i acc M' _ ⟨h, _⟩ => h ▸ .ref fb, ?_, ?_⟩
    · rintro i x acc M' hx ⟨rfl, rfl⟩
      obtain ⟨c, h1, rfl⟩ := int_at hx
      have hi := (List.getElem?_eq_some_iff.mp h1).1
      refine ⟨size_ok (by simp; omega), _, .refl _, rfl, ?_⟩
      rw [List.take_add_one, List.map_append, List.getElem?_map, h1]
      rfl
    · rintro acc M' ⟨rfl, rfl⟩ c hc
      rw [List.length_map, List.take_of_length_le (by simp)]
      have hcs : ∀ c ∈ (ms.map fun c => if c < 0 then -c else c), (0 : Int) ≤ c := fun c hc => by
        obtain ⟨d, _, rfl⟩ := List.mem_map.mp hc
        split <;> omega
      have hcl : (ms.map fun c => if c < 0 then -c else c).length ≤ 100 := by simp; omega
      generalize (ms.map fun c => if c < 0 then -c else c) = cs at hcs hcl ⊢
      have Lc := les_new (o := .lst (cs.map D.int)) hc
      have fc : upM M' c (.lst (cs.map D.int)) c = some (.lst (cs.map D.int)) := upM_same
      generalize upM M' c (.lst (cs.map D.int)) = M2 at Lc fc ⊢
      have L2 := Lb.trans Lc
      walk_at "w"
      refine ⟨.inr ⟨by omega, by omega⟩, ?_⟩
      walk_at "w"
      refine ⟨_, .ref fc, fun i s M' => M' = M2 ∧ ∃ b y, s = [some (.ref a), some (.int (k : Nat)), some (.ref c), some (.int b), y] ∧ 0 ≤ b ∧ b < 2147483563, .of ⟨rfl, _, _, rfl, by omega, by omega⟩, fun i s M' _ ⟨h, _⟩ => h ▸ .ref fc, ?_, ?_⟩
      · rintro i x s M' hx ⟨rfl, b, y, rfl, b0, b1⟩
        obtain ⟨c, h1, rfl⟩ := int_at hx
        walk_at "w"
        refine ⟨.inr ⟨by decide, by decide⟩, ?_⟩
        walk_at "w"
        refine ⟨by decide, ?_⟩
        walk_at "w"
        refine ⟨by decide, ?_⟩
        exact ⟨_, _, Lss.refl _, Les.refl _, rfl, _, _, rfl, Int.emod_nonneg _ (by decide), Int.emod_lt_of_pos _ (by decide)⟩
      · rintro s M' ⟨rfl, b, y, rfl, b0, b1⟩
        walk_at "w"
        refine ⟨_, .ref fc, fun i acc M3 => M3 = M' ∧ ∃ es : List Int, acc = es.map D.int ∧ es.length ≤ i, ⟨_, .refl _, rfl, [], rfl, Nat.le_refl _⟩, fun i acc M3 _ ⟨h, _⟩ => h ▸ .ref fc, ?_, ?_⟩
        · rintro i x acc M3 hx ⟨rfl, es, rfl, hes⟩
          obtain ⟨c, h1, rfl⟩ := int_at hx
          have hi := (List.getElem?_eq_some_iff.mp h1).1
          walk_at "w"
          refine ⟨⟨by decide, by decide, by decide⟩, ?_⟩
          refine ifB_mk (fun h3 => ?_) (fun h3 => ?_)
          · exact ⟨size_ok (by simp; omega), _, .refl _, rfl, es ++ [c], by simp, by simp; omega⟩
          · exact ⟨_, .refl _, rfl, es, rfl, by omega⟩
        · rintro acc M3 ⟨rfl, es, rfl, hes⟩ g hg
          have Lg := les_new (o := .lst (es.map D.int)) hg
          have fg : upM M3 g (.lst (es.map D.int)) g = some (.lst (es.map D.int)) := upM_same
          generalize upM M3 g (.lst (es.map D.int)) = M4 at Lg fg ⊢
          walk_at "w"
          refine ⟨g, _, rfl, .inl fg, fun h hh => ?_⟩
          have Lh := les_new (o := .lst (es.map D.int).reverse) hh
          have fh : upM M4 h (.lst (es.map D.int).reverse) h = some (.lst (es.map D.int).reverse) := upM_same
          have L4 := (L2.trans Lg).trans Lh
          generalize upM M4 h (.lst (es.map D.int).reverse) = M5 at Lh fh L4 ⊢
          walk_at "w"
          refine ⟨(by show 2 ≤ sizeLine; decide), fun p hp => ?_⟩
          have Lp := les_new (o := .lst [.ref h, .int b]) hp
          have hh0 : M h = none := (L2.trans Lg).free hh
          have hl2 : es.length ≤ 100 := by rw [List.length_map] at hes; omega
          exact Lk.of (qq p h _ (L4.trans Lp) ⟨L4.trans Lp, L4.free hp, hh0, es.reverse, b, upM_same, by rw [← List.map_reverse] at fh; exact Lp _ _ fh, (fun z => by rw [z, fh] at hp; cases hp), by rw [List.length_reverse]; omega, b0, b1⟩)
end
end K83
set_option linter.all false
namespace K83
open PySem PySem.Spec PyProof.Rows L2 DL
local macro_rules | `(tactic| walk_at "w") => `(tactic| conv => whnf)
/-- no two contents of a part bring one mark -/
def FairP (ns ks : List Int) (part : Nat) : Prop := ∀ r, IsS ns r → ∀ c, r.getD part 0 < c → c < ns.getD part 0 → fV ns ks (r.set part c) ≠ fV ns ks r
theorem sum_set (f g : Nat → Int) : ∀ (n i : Nat), i < n → (∀ j, j ≠ i → f j = g j) → ((List.range n).map f).sum = ((List.range n).map g).sum + (f i - g i)
  | 0, i, h, _ => absurd h (Nat.not_lt_zero _)
  | n + 1, i, h, e => by
    rw [List.range_succ, List.map_append, List.map_append, List.sum_append_int, List.sum_append_int]
    simp only [List.map_cons, List.map_nil, List.sum_cons, List.sum_nil]
    by_cases q : i = n
    · subst q
      have : (List.range i).map f = (List.range i).map g := List.map_congr_left fun j hj => e j (by have := List.mem_range.mp hj; omega)
      rw [this]
      omega
    · rw [sum_set f g n i (by omega) e, e n (by omega)]
      omega
theorem num_set {ns r : List Int} (h : r.length = ns.length) {i : Nat} (hi : i < ns.length) (c : Int) : numI ns (r.set i c) = numI ns r + prodI (ns.drop (i + 1)) * (c - r.getD i 0) := by
  rw [num_w (by rw [List.length_set]; exact h), num_w h]
  unfold wS
  rw [sum_set (fun j => prodI (ns.drop (j + 1)) * (r.set i c).getD j 0) (fun j => prodI (ns.drop (j + 1)) * r.getD j 0) ns.length i hi fun j hj => by rw [getD_set_ne (Ne.symm hj)]]
  rw [getD_set_self (by omega), Int.mul_sub]
theorem isS_set {ns r : List Int} (h : IsS ns r) {i : Nat} {c : Int} (c0 : 0 ≤ c) (c1 : c < ns.getD i 0) : IsS ns (r.set i c) := by
  refine ⟨by rw [List.length_set]; exact h.1, fun j hj => ?_⟩
  by_cases e : j = i
  · subst e
    rw [getD_set_self (by rw [h.1]; exact hj)]
    exact ⟨c0, c1⟩
  · rw [getD_set_ne (Ne.symm e)]
    exact h.2 j hj
theorem fv_at {mv : Int} {ns ks r : List Int} (B : BdOk mv ns ks) (h : IsS ns r) : ∃ j : Nat, numI ns r = j ∧ ks[j]? = some (fV ns ks r) := by
  obtain ⟨h0, h1⟩ := get_num B.n1 h
  have hl := (List.getElem?_eq_some_iff.mp h1).1
  rw [set_length B.n1] at hl
  refine ⟨(numI ns r).toNat, (Int.toNat_of_nonneg h0).symm, ?_⟩
  have hk := B.len
  rw [List.getElem?_eq_getElem (by omega)]
  unfold fV
  rw [List.getD_eq_getElem?_getD, List.getElem?_eq_getElem (by omega)]
  rfl
theorem ints_at {ks : List Int} {j : Nat} {v : Int} (h : ks[j]? = some v) : atI (ks.map D.int) (j : Int) = some (.int v) := atI_nat (by rw [List.getElem?_map, h]; rfl)
theorem nsz_at {ns : List Int} {i : Nat} (h : i < ns.length) : atI (ns.map D.int) (i : Int) = some (.int (ns.getD i 0)) := ints_at (by rw [List.getD_eq_getElem?_getD, List.getElem?_eq_getElem h]; rfl)
section
variable {P₀ : Program} {w : World} {K : PySem.W.Frag} {mg : Str → Option Value} {base : Heap} {C_Board C_BoardError C_InvalidBoard C_InvalidSetting C_InvalidSize C_Refused : Addr}
abbrev s_first_twice : Stmt := top 36
abbrev N_first_twice : List Str := ["board", "part", "step", "number", "setting", "content"]
abbrev P_first_twice : List Str := ["board", "part"]
theorem sc_first_twice : FnScope N_first_twice P_first_twice (defScope s_first_twice) := ⟨rfl, rfl, rfl, by decide +kernel, rfl, by decide +kernel, by decide +kernel⟩
def sp_ft (C_Board : Addr) : DSp := fun ds M Q _ => ∃ (p : Addr) (i : Nat) (mv : Int) (ns ks : List Int), ds = [.ref p, .int i] ∧ BdAt C_Board M p mv ns ks ∧ BdOk mv ns ks ∧ i < ns.length ∧ (FairP ns ks i → ∀ M', Les M M' → Q .non M') ∧ ∀ r c, IsS ns r → r.getD i 0 < c → c < ns.getD i 0 → fV ns ks (r.set i c) = fV ns ks r → ∀ M', Les M M' → Q (.tup [tpD r, .int c]) M'
theorem ok_ft {f : Addr} {fd : FuncData} (Dd : Df K mg "first_twice" s_first_twice f fd P_first_twice) (Z : Zs mg) (T : Tc P₀ w K mg base C_Board C_InvalidSize) (G_all_settings : Cal P₀ w K mg base "all_settings" 1 sp_alls) : Cal P₀ w K mg base "first_twice" 2 (sp_ft C_Board) := by
  refine Dd.cal sc_first_twice (fun ds M P PE h => ?_) (fun cdv A outer s H E ds M P PE hr tk h => ⟨_, (dss_cons (ds_set 2 sc_first_twice.nd (de_ix (de_fld (de_var 0)) (de_var 1)))
    (dss_cons (ds_for (passes_of rfl) (di_en Z.enum (de_call G_all_settings (hr.mono (by decide)) tk (da_cons (de_fld (de_var 0)) da_nil))) (dg_tup (n := 2) rfl (dgs_cons (dg_name 3 sc_first_twice.nd) (dgs_cons (dg_name 4 sc_first_twice.nd) dgs_nil))) (dss_one (ds_for (passes_of rfl) (di_rg2 Z.rng (de_op or_add (de_ix (de_var 4) (de_var 1)) de_int) (de_ix (de_fld (de_var 0)) (de_var 1))) (dg_name 5 sc_first_twice.nd) (dss_one (ds_if (dt_cmp (or_eq hr.r.units) (de_ix (de_fld (de_var 0)) (de_op or_add (de_var 3) (de_op or_mul (de_var 2) (de_op or_sub (de_var 5) (de_ix (de_var 4) (de_var 1)))))) (de_ix (de_fld (de_var 0)) (de_var 3))) (dss_one (ds_ret (de_tup (da_cons (de_var 4) (da_cons (de_var 5) da_nil))))) dss_nil)))))
    (dss_one (ds_ret de_non)))), ?_⟩)
  · obtain ⟨_, _, _, _, _, rfl, _⟩ := h
    rfl
  · obtain ⟨p, i, mv, ns, ks, rfl, hp, B, hi, q1, q2⟩ := h
    have c := T.i_Board.cl
    have stp : atI ((stepsI ns).map D.int) (i : Int) = some (.int (prodI (ns.drop (i + 1)))) := ints_at (by unfold stepsI; rw [List.getElem?_map, List.getElem?_range (by simpa using hi)]; rfl)
    walk_at "w"
    refine ⟨p, _, _, _, rfl, hp, c, T.na_steps, rfl, ?_⟩
    walk_at "w"
    refine .inl ⟨_, _, _, .tup, rfl, stp, ?_⟩
    walk_at "w"
    refine ⟨p, _, _, _, rfl, hp, c, T.na_sizes, rfl, ?_⟩
    have pr := B.pr
    have l8 := B.l2
    refine ⟨_, ns, rfl, .tup, by omega, fun n hn => by have := B.n1 n hn; have := n_small B.n1 B.pr n hn; omega, set_short B.n1 B.pr, fun M1 L1 => ?_⟩
    have hp1 := L1 _ _ hp
    walk_at "w"
    refine ⟨_, .tup, fun k s M' => Les M M' ∧ (∀ j r, j < k → (setS ns)[j]? = some r → ∀ c, r.getD i 0 < c → c < ns.getD i 0 → fV ns ks (r.set i c) ≠ fV ns ks r) ∧ ∃ x3 x4 x5, s = [some (.ref p), some (.int i), some (.int (prodI (ns.drop (i + 1)))), x3, x4, x5], .of ⟨L1, fun j r h => absurd h (Nat.not_lt_zero _), _, _, _, rfl⟩, fun _ _ _ _ _ => .tup, ?_, ?_⟩
    · rintro k x s M' hx ⟨L, hf, x3, x4, x5, rfl⟩
      obtain ⟨t, h2, rfl⟩ := en_at hx
      obtain ⟨r, h3, rfl⟩ : ∃ r, (setS ns)[k]? = some r ∧ t = tpD r := by
        rw [List.getElem?_map] at h2
        obtain ⟨r, a, b⟩ := Option.map_eq_some_iff.mp h2
        exact ⟨r, a, b.symm⟩
      have hr := mem_setS.mp (List.mem_of_getElem? h3)
      have hp' := L _ _ hp
      have hri := hr.2 i hi
      have hni := n_small B.n1 B.pr _ (getD_mem2 hi)
      refine ⟨rfl, ?_⟩
      walk_at "w"
      refine .inl ⟨_, _, _, .tup, rfl, nsz_at (by rw [hr.1]; exact hi), ?_⟩
      walk_at "w"
      refine ⟨p, _, _, _, rfl, hp', c, T.na_sizes, rfl, ?_⟩
      refine .inl ⟨_, _, _, .tup, rfl, nsz_at hi, ?_⟩
      refine ⟨_, _, rfl, rfl, ⟨by omega, by omega, by omega, by omega⟩, ?_⟩
      refine ⟨fun m s M2 => Les M M2 ∧ (∀ c, r.getD i 0 < c → c < r.getD i 0 + 1 + m → fV ns ks (r.set i c) ≠ fV ns ks r) ∧ ∃ x5, s = [some (.ref p), some (.int i), some (.int (prodI (ns.drop (i + 1)))), some (.int (k : Nat)), some (tpD r), x5], .of ⟨L, fun c h1 h2 => by omega, _, rfl⟩, fun _ _ _ _ _ => trivial, ?_, ?_⟩
      · rintro m u s M2 hu ⟨L2, hm, x5, rfl⟩
        have hl := (List.getElem?_eq_some_iff.mp hu).1
        rw [rgD_len] at hl
        rw [rgD_get hl] at hu
        cases hu
        have hp2 := L2 _ _ hp
        have c0 : 0 ≤ r.getD i 0 + 1 + (m : Nat) := by omega
        have c1 : r.getD i 0 + 1 + (m : Nat) < ns.getD i 0 := by omega
        generalize hc : r.getD i 0 + 1 + (m : Nat) = cc at c0 c1
        have hs := isS_set hr c0 c1
        obtain ⟨j, e1, e2⟩ := fv_at B hs
        obtain ⟨j0, e3, e4⟩ := fv_at B hr
        have ek : (k : Int) = numI ns r := (num_get B.n1 h3).symm
        have en : (k : Int) + prodI (ns.drop (i + 1)) * (cc - r.getD i 0) = (j : Int) := by
          rw [ek, ← e1, num_set hr.1 hi]
        walk_at "w"
        refine ⟨p, _, _, _, rfl, hp2, c, T.na_marks, rfl, ?_⟩
        walk_at "w"
        refine .inl ⟨_, _, _, .tup, rfl, nsz_at (by rw [hr.1]; exact hi), ?_⟩
        walk_at "w"
        refine ⟨.inr ⟨by omega, by omega⟩, ?_⟩
        refine .inl ⟨_, _, _, .tup, rfl, (by rw [en]; exact ints_at e2), ?_⟩
        walk_at "w"
        refine ⟨p, _, _, _, rfl, hp2, c, T.na_marks, rfl, ?_⟩
        refine .inl ⟨_, _, _, .tup, rfl, (by rw [ek, e3]; exact ints_at e4), ?_⟩
        refine ifB_mk (fun h4 => ?_) (fun h4 => ?_)
        · have h4 := of_decide_eq_true h4
          walk_at "w"
          exact ⟨(by show 2 ≤ sizeLine; decide), _, .refl _, q2 r cc hr (by omega) c1 h4 _ L2⟩
        · have h4 := of_decide_eq_false h4
          refine ⟨_, _, Lss.refl _, Les.refl _, L2, fun d h5 h6 => ?_, _, rfl⟩
          by_cases e : d = cc
          · rw [e]; exact h4
          · exact hm d h5 (by omega)
      · rintro s M2 ⟨L2, hm, x5, rfl⟩
        refine ⟨_, _, Lss.refl _, Les.refl _, L2, fun j r' hj hr' d h5 h6 => ?_, _, _, _, rfl⟩
        by_cases e : j = k
        · subst e
          cases h3.symm.trans hr'
          refine hm d h5 ?_
          rw [rgD_len]
          omega
        · exact hf j r' (by omega) hr' d h5 h6
    · rintro s M' ⟨L, hf, x3, x4, x5, rfl⟩
      walk_at "w"
      refine ⟨_, .refl _, q1 (fun r hr d h5 h6 => ?_) _ L⟩
      obtain ⟨j, hj⟩ := List.getElem?_of_mem (mem_setS.mpr hr)
      have hl := (List.getElem?_eq_some_iff.mp hj).1
      exact hf j r (by simpa [enD] using hl) hj d h5 h6
abbrev s_fair_fault : Stmt := top 37
abbrev N_fair_fault : List Str := ["board", "part", "size", "found"]
abbrev P_fair_fault : List Str := ["board"]
theorem sc_fair_fault : FnScope N_fair_fault P_fair_fault (defScope s_fair_fault) := ⟨rfl, rfl, rfl, by decide +kernel, rfl, by decide +kernel, by decide +kernel⟩
/-- what a board that is not fair is told -/
def sp_ff (C_Board : Addr) : DSp := fun ds M Q _ => ∃ (p : Addr) (mv : Int) (ns ks : List Int), ds = [.ref p] ∧ BdAt C_Board M p mv ns ks ∧ BdOk mv ns ks ∧ (∀ n ∈ ns, n = mv) ∧ ((∀ i, i < ns.length → FairP ns ks i) → ∀ M', Les M M' → Q .non M') ∧
  ∀ i r c, i < ns.length → ¬ FairP ns ks i → ∀ M', Les M M' → Q (.tup [.str "twice", .int (i : Nat), tpD r, .int c]) M'
theorem ok_ff {f : Addr} {fd : FuncData} (Dd : Df K mg "fair_fault" s_fair_fault f fd P_fair_fault) (Z : Zs mg) (T : Tc P₀ w K mg base C_Board C_InvalidSize) (G_first_twice : Cal P₀ w K mg base "first_twice" 2 (sp_ft C_Board)) : Cal P₀ w K mg base "fair_fault" 3 (sp_ff C_Board) := by
  refine Dd.cal sc_fair_fault (fun ds M P PE h => ?_) (fun cdv A outer s H E ds M P PE hr tk h => ⟨_, (dss_cons (ds_for (passes_of rfl) (di_en Z.enum (de_fld (de_var 0))) (dg_tup (n := 2) rfl (dgs_cons (dg_name 1 sc_fair_fault.nd) (dgs_cons (dg_name 2 sc_fair_fault.nd) dgs_nil))) (dss_one (ds_if (dt_cmp (or_ne hr.r.units) (de_var 2) (de_fld (de_var 0))) (dss_one (ds_ret (de_tup (da_cons de_str (da_cons (de_var 1) da_nil))))) dss_nil)))
    (dss_cons (ds_for (passes_of rfl) (di_rg1 Z.rng (de_lenO Z.len T.len (hr.mono (by decide)) tk (de_var 0))) (dg_name 1 sc_fair_fault.nd) (dss_cons (ds_set 3 sc_fair_fault.nd (de_call G_first_twice (hr.mono (by decide)) tk (da_cons (de_var 0) (da_cons (de_var 1) da_nil))))
    (dss_one (ds_if (dt_cmp or_isn (de_var 3) de_non) (dss_one (ds_ret (de_tup (da_cons de_str (da_cons (de_var 1) (da_cons (de_ix (de_var 3) de_int) (da_cons (de_ix (de_var 3) de_int) da_nil))))))) dss_nil))))
    (dss_one (ds_ret de_non)))), ?_⟩)
  · obtain ⟨_, _, _, _, rfl, _⟩ := h
    rfl
  · obtain ⟨p, mv, ns, ks, rfl, hp, B, hn, q1, q2⟩ := h
    have c := T.i_Board.cl
    have l8 := B.l2
    walk_at "w"
    refine ⟨p, _, _, _, rfl, hp, c, T.na_sizes, rfl, ?_⟩
    refine ⟨_, .tup, fun k s M' => M' = M ∧ ∃ x1 x2 x3, s = [some (.ref p), x1, x2, x3], .of ⟨rfl, _, _, _, rfl⟩, fun _ _ _ _ _ => .tup, ?_, ?_⟩
    · rintro k x s M' hx ⟨rfl, x1, x2, x3, rfl⟩
      obtain ⟨t, h2, rfl⟩ := en_at hx
      obtain ⟨n, h3, rfl⟩ := int_at h2
      have e := hn n (List.mem_of_getElem? h3)
      subst e
      refine ⟨rfl, ?_⟩
      walk_at "w"
      refine ⟨p, _, _, _, rfl, hp, c, T.na_many, rfl, ?_⟩
      refine ifB_mk (fun h4 => ?_) (fun h4 => ?_)
      · simp at h4
      · exact ⟨_, _, Lss.refl _, Les.refl _, rfl, _, _, _, rfl⟩
    · rintro s M' ⟨rfl, x1, x2, x3, rfl⟩
      walk_at "w"
      refine .inr ⟨p, _, rfl, hp, ?_⟩
      refine ⟨p, _, _, _, rfl, hp, _, rfl, by omega, ?_⟩
      refine ⟨_, rfl, ⟨by omega, by omega⟩, ?_⟩
      refine ⟨fun k s M2 => Les M' M2 ∧ (∀ j, j < k → FairP ns ks j) ∧ ∃ x1 x2 x3, s = [some (.ref p), x1, x2, x3], .of ⟨.refl _, fun j h => absurd h (Nat.not_lt_zero _), _, _, _, rfl⟩, fun _ _ _ _ _ => trivial, ?_, ?_⟩
      · rintro k x s M2 hx ⟨L, hf, x1, x2, x3, rfl⟩
        have hl := (List.getElem?_eq_some_iff.mp hx).1
        rw [rgD_len] at hl
        rw [rgD_get hl] at hx
        cases hx
        have hk : k < ns.length := by omega
        walk_at "w"
        refine ⟨p, k, mv, ns, ks, by simp, L _ _ hp, B, hk, fun hF M3 L3 => ?_, fun r d h1 h2 h3 h4 M3 L3 => ?_⟩
        · walk_at "w"
          refine ⟨rfl, ?_⟩
          walk_at "w"
          refine ⟨_, _, Lss.refl _, Les.refl _, L.trans L3, fun j hj => ?_, _, _, _, rfl⟩
          by_cases e : j = k
          · subst e; exact hF
          · exact hf j (by omega)
        · walk_at "w"
          refine ⟨rfl, ?_⟩
          walk_at "w"
          refine .inl ⟨_, 0, _, .tup, rfl, rfl, ?_⟩
          walk_at "w"
          refine .inl ⟨_, 1, _, .tup, rfl, rfl, ?_⟩
          exact ⟨(by show 4 ≤ sizeLine; decide), _, .refl _, by simpa using q2 k r d hk (fun hF => hF r h1 d h2 h3 h4) M3 (L.trans L3)⟩
      · rintro s M2 ⟨L, hf, x1, x2, x3, rfl⟩
        walk_at "w"
        exact ⟨_, .refl _, q1 (fun i hi => hf i (by rw [rgD_len]; omega)) _ L⟩
/-- what is told of a refusal -/
structure Tr (P₀ : Program) (w : World) (K : PySem.W.Frag) (mg : Str → Option Value) (base : Heap) (C_Refused : Addr) : Prop where
  x_Refused : ExK P₀ w K mg base "Refused" C_Refused "at"
  ex_RR : PySem.W.exmOne K (.ref C_Refused) (.ref C_Refused) = some true
abbrev s_need_fair : Stmt := top 38
abbrev N_need_fair : List Str := ["board", "fault"]
abbrev P_need_fair : List Str := ["board"]
theorem sc_need_fair : FnScope N_need_fair P_need_fair (defScope s_need_fair) := ⟨rfl, rfl, rfl, by decide +kernel, rfl, by decide +kernel, by decide +kernel⟩
def sp_nf (C_Board C_Refused : Addr) : DSp := fun ds M Q PE => ∃ (p : Addr) (mv : Int) (ns ks : List Int), ds = [.ref p] ∧ BdAt C_Board M p mv ns ks ∧ BdOk mv ns ks ∧ (∀ n ∈ ns, n = mv) ∧ ((∀ i, i < ns.length → FairP ns ks i) → ∀ M', Les M M' → Q (.ref p) M') ∧
  (¬ (∀ i, i < ns.length → FairP ns ks i) → ∀ (i : Nat) r c M', Les M M' → PE ⟨C_Refused, [("at", .tup [.str "twice", .int (i : Nat), tpD r, .int c])]⟩ M')
theorem ok_nf {f : Addr} {fd : FuncData} (Dd : Df K mg "need_fair" s_need_fair f fd P_need_fair) (Z : Zs mg) (T : Tr P₀ w K mg base C_Refused) (G_fair_fault : Cal P₀ w K mg base "fair_fault" 3 (sp_ff C_Board)) : FnD P₀ w K mg base 4 f fd P_need_fair (sp_nf C_Board C_Refused) := by
  refine fn_D Dd.F sc_need_fair (fun ds M P PE h => ?_) (fun cdv A outer s H E ds M P PE hr tk h => ⟨_, (dss_cons (ds_set 1 sc_need_fair.nd (de_call G_fair_fault (hr.mono (by decide)) tk (da_cons (de_var 0) da_nil)))
    (dss_cons (ds_if (dt_cmp or_isn (de_var 1) de_non) (dss_one (ds_raise T.x_Refused (hr.mono (by decide)).r tk (da_cons (de_var 1) da_nil))) dss_nil)
    (dss_one (ds_ret (de_var 0))))), ?_⟩)
  · obtain ⟨_, _, _, _, rfl, _⟩ := h
    rfl
  · obtain ⟨p, mv, ns, ks, rfl, hp, B, hn, q1, q2⟩ := h
    walk_at "w"
    refine ⟨p, mv, ns, ks, rfl, hp, B, hn, fun hF M1 L1 => ?_, fun i r c hi hF M1 L1 => ?_⟩
    · walk_at "w"
      refine ⟨rfl, ?_⟩
      walk_at "w"
      exact ⟨_, .refl _, q1 hF _ L1⟩
    · walk_at "w"
      refine ⟨rfl, ?_⟩
      exact ⟨_, .refl _, q2 (fun a => hF (a i hi)) i r c _ L1⟩
end
end K83
set_option linter.all false
namespace K83
open PySem PySem.Spec PyProof.Rows L2 DL
local macro_rules | `(tactic| walk_at "w") => `(tactic| conv => whnf)
/-- lists, each at its place -/
inductive LLs (N : DHp) : List Addr → List (List D) → Prop
  | nil : LLs N [] []
  | cons {a : Addr} {r : List D} {as : List Addr} {rs : List (List D)} : N a = some (.lst r) → LLs N as rs → LLs N (a :: as) (r :: rs)
theorem LLs.les {N N' : DHp} (l : Les N N') : ∀ {as : List Addr} {rs : List (List D)}, LLs N as rs → LLs N' as rs
  | _, _, .nil => .nil
  | _, _, .cons h t => .cons (l _ _ h) (t.les l)
theorem LLs.app {N : DHp} : ∀ {as bs : List Addr} {rs ss : List (List D)}, LLs N as rs → LLs N bs ss → LLs N (as ++ bs) (rs ++ ss)
  | _, _, _, _, .nil, h => h
  | _, _, _, _, .cons h t, h2 => .cons h (t.app h2)
theorem LLs.len {N : DHp} : ∀ {as : List Addr} {rs : List (List D)}, LLs N as rs → as.length = rs.length
  | _, _, .nil => rfl
  | _, _, .cons _ t => congrArg Nat.succ t.len
theorem LLs.get {N : DHp} : ∀ {as : List Addr} {rs : List (List D)}, LLs N as rs → ∀ {i : Nat} {a : Addr}, as[i]? = some a → ∃ r, rs[i]? = some r ∧ N a = some (.lst r)
  | _, _, .nil, i, a, h => by simp at h
  | _, _, .cons (r := r) h t, 0, a, e => ⟨r, rfl, by have e' := Option.some.inj e; subst e'; exact h⟩
  | _, _, .cons h t, i + 1, a, e => t.get (i := i) (by simpa using e)
theorem LLs.getD {N : DHp} : ∀ {as : List Addr} {rs : List (List D)}, LLs N as rs → ∀ {i : Nat} {r : List D}, rs[i]? = some r → ∃ a, as[i]? = some a ∧ N a = some (.lst r)
  | _, _, .nil, i, a, h => by simp at h
  | _, _, .cons (a := b) h t, 0, r, e => ⟨b, rfl, by have e' := Option.some.inj e; subst e'; exact h⟩
  | _, _, .cons h t, i + 1, a, e => t.getD (i := i) (by simpa using e)
theorem LLs.up {N : DHp} {g : Addr} {o : DO} : ∀ {as : List Addr} {rs : List (List D)}, LLs N as rs → (∀ a ∈ as, a ≠ g) → LLs (upM N g o) as rs
  | _, _, .nil, _ => .nil
  | _, _, .cons h t, n => .cons (by rw [upM_ne (n _ List.mem_cons_self)]; exact h) (t.up fun a ha => n a (List.mem_cons_of_mem _ ha))
theorem LLs.told {N : DHp} : ∀ {as : List Addr} {rs : List (List D)}, LLs N as rs → ∀ a ∈ as, N a ≠ none
  | _, _, .nil, a, h => absurd h List.not_mem_nil
  | _, _, .cons h t, a, m => by
    rcases List.mem_cons.mp m with e | e
    · rw [e, h]; simp
    · exact t.told a e
/-- a list of lists -/
def LL (N : DHp) (q : Addr) (rs : List (List D)) : Prop := ∃ as : List Addr, N q = some (.lst (as.map D.ref)) ∧ LLs N as rs
theorem LL.les {N N' : DHp} {q : Addr} {rs : List (List D)} (h : LL N q rs) (l : Les N N') : LL N' q rs := let ⟨as, a, b⟩ := h; ⟨as, l _ _ a, b.les l⟩
theorem LL.at {N : DHp} {q : Addr} {rs : List (List D)} {i : Nat} {r : List D} (h : LL N q rs) (e : rs[i]? = some r) : ∃ a ds, N q = some (.lst ds) ∧ atI ds (i : Int) = some (.ref a) ∧ N a = some (.lst r) := by
  obtain ⟨as, h1, h2⟩ := h
  obtain ⟨a, e1, e2⟩ := h2.getD e
  exact ⟨a, _, h1, atI_nat (by rw [List.getElem?_map, e1]; rfl), e2⟩
abbrev iL (rs : List (List Int)) : List (List D) := rs.map fun r => r.map D.int
theorem iL_at {rs : List (List Int)} {i : Nat} {r : List D} (h : (iL rs)[i]? = some r) : ∃ s, rs[i]? = some s ∧ r = s.map D.int := by
  unfold iL at h
  rw [List.getElem?_map] at h
  obtain ⟨s, a, b⟩ := Option.map_eq_some_iff.mp h
  exact ⟨s, a, b.symm⟩
theorem refs_at {as : List Addr} {i : Nat} {d : D} (h : (as.map D.ref)[i]? = some d) : ∃ a, as[i]? = some a ∧ d = .ref a := by
  rw [List.getElem?_map] at h
  obtain ⟨s, a, b⟩ := Option.map_eq_some_iff.mp h
  exact ⟨s, a, b.symm⟩
theorem rep_take (n i m : Nat) (h : i ≤ n) (a : Int) : (List.replicate n a).take i = List.replicate i a := by
  rw [List.take_replicate, Nat.min_eq_left h]
/-- more of what is new, told beside the deal -/
theorem Rs.ext {N M M' : DHp} {p q : Addr} (R : Rs N M p q) (l : Les M M') (S : Addr → Prop) (h : ∀ a, S a → M a = none) : ∃ N', Les N N' ∧ Rs N' M' p q ∧ ∀ a, S a → N' a = M' a := by
  classical
  refine ⟨fun a => if S a then M' a else N a, fun a o e => ?_, ⟨fun a o e => ?_, ?_, ?_, (R.to l).d⟩, fun a ha => if_pos ha⟩
  · have n : ¬ S a := fun z => by rw [R.l.free (h a z)] at e; cases e
    show (if S a then M' a else N a) = _
    rw [if_neg n]
    exact e
  · have e : (if S a then M' a else N a) = some o := e
    by_cases n : S a
    · rw [if_pos n] at e; exact e
    · rw [if_neg n] at e; exact l _ _ (R.l _ _ e)
  · have n : ¬ S p := fun z => by
      obtain ⟨cs, b, h1, _⟩ := R.d
      rw [h p z] at h1
      cases h1
    exact (if_neg n).trans R.np
  · have n : ¬ S q := fun z => by
      obtain ⟨cs, b, _, h1, _⟩ := R.d
      rw [h q z] at h1
      cases h1
    exact (if_neg n).trans R.nq
theorem LLs.of {N N' : DHp} : ∀ {as : List Addr} {rs : List (List D)}, LLs N as rs → (∀ a ∈ as, N' a = N a) → LLs N' as rs
  | _, _, .nil, _ => .nil
  | _, _, .cons h t, n => .cons (by rw [n _ List.mem_cons_self]; exact h) (t.of fun a ha => n a (List.mem_cons_of_mem _ ha))
theorem Rs.newLL {N M M' : DHp} {p q b : Addr} {as : List Addr} {rs : List (List D)} (R : Rs N M p q) (l : Les M M') (nb : M b = none) (na : ∀ a ∈ as, M a = none) (hb : M' b = some (.lst (as.map D.ref))) (h : LLs M' as rs) : ∃ N', Les N N' ∧ Rs N' M' p q ∧ LL N' b rs := by
  obtain ⟨N', l', R', e⟩ := R.ext l (fun a => a = b ∨ a ∈ as) fun a ha => ha.elim (fun z => z ▸ nb) (na a)
  exact ⟨N', l', R', as, by rw [e b (.inl rfl)]; exact hb, h.of fun a ha => e a (.inr ha)⟩
theorem Rs.newQ {N M M' : DHp} {p q g : Addr} {o : DO} (R : Rs N M p q) (l : Les M M') (ng : M g = none) (h : M' g = some o) : ∃ N', Les N N' ∧ Rs N' M' p q ∧ N' g = some o := by
  obtain ⟨N', l', R', e⟩ := R.ext l (fun a => a = g) fun a ha => ha ▸ ng
  exact ⟨N', l', R', by rw [e g rfl]; exact h⟩
/-- the same, a list at v set apart: it will grow -/
theorem Rs.newLL2 {N Nz M M' : DHp} {p q b v : Addr} {as : List Addr} {rs : List (List D)} {o : DO} (R : Rs N M p q) (l : Les M M') (nb : M b = none) (na : ∀ a ∈ as, M a = none) (hb : M' b = some (.lst (as.map D.ref))) (h : LLs M' as rs) (hv : N v = some o) (z2 : Les Nz N) (z3 : Nz v = none) :
    ∃ Ny, Les Nz Ny ∧ Ny v = none ∧ LL Ny b rs ∧ Rs (upM Ny v o) M' p q := by
  obtain ⟨N', l', R', e⟩ := R.ext l (fun a => a = b ∨ a ∈ as) fun a ha => ha.elim (fun z => z ▸ nb) (na a)
  have nv : ∀ a, M a = none → a ≠ v := fun a ha z => by rw [z, R.l _ _ hv] at ha; cases ha
  have up : upM (fun a => if a = v then none else N' a) v o = N' := by
    funext a
    unfold upM
    by_cases n : a = v
    · rw [if_pos n, n, l' _ _ hv]
    · rw [if_neg n]
      exact if_neg n
  refine ⟨fun a => if a = v then none else N' a, fun a o e => ?_, if_pos rfl, ⟨as, ?_, h.of fun a ha => ?_⟩, by rw [up]; exact R'⟩
  · exact (if_neg (fun z => by rw [z, z3] at e; cases e)).trans (l' _ _ (z2 _ _ e))
  · exact (if_neg (nv b nb)).trans (by rw [e b (.inl rfl)]; exact hb)
  · exact (if_neg (nv a (na a ha))).trans (e a (.inr ha))
theorem up_hid {N : DHp} {v : Addr} {o : DO} (h : N v = none) : Les N (upM N v o) := les_new h
section
variable {P₀ : Program} {w : World} {K : PySem.W.Frag} {mg : Str → Option Value} {base : Heap}
abbrev s__law_settings : Stmt := top 49
abbrev N__law_settings : List Str := ["many", "size", "rows", "part", "grown", "row", "content"]
abbrev P__law_settings : List Str := ["many", "size"]
theorem sc__law_settings : FnScope N__law_settings P__law_settings (defScope s__law_settings) := ⟨rfl, rfl, rfl, by decide +kernel, rfl, by decide +kernel, by decide +kernel⟩
def sp_lset : DSp := fun ds M Q _ => ∃ (n m : Nat), ds = [.int n, .int m] ∧ n ≤ 8 ∧ m ≤ 4 ∧ ∀ q as M', Les M M' → M q = none → (∀ a ∈ as, M a = none) → M' q = some (.lst (as.map D.ref)) → LLs M' as (iL (setS (List.replicate m (n : Int)))) → Q (.ref q) M'
theorem set_rep (n : Nat) : ∀ m : Nat, setS (List.replicate (m + 1) (n : Int)) = setR (setS (List.replicate m (n : Int))) (n : Int) := fun m => by
  rw [List.replicate_succ', setS_app]
theorem len_rep (n : Nat) : ∀ m : Nat, (setS (List.replicate m (n : Int))).length = n ^ m
  | 0 => rfl
  | m + 1 => by
    rw [set_rep, setR, List.length_flatMap, Nat.pow_succ, ← len_rep n m]
    generalize setS (List.replicate m (n : Int)) = rows
    induction rows with
    | nil => simp
    | cons a rows ih =>
      rw [List.map_cons, List.sum_cons, ih, List.length_cons, List.length_map, List.length_range, Int.toNat_natCast, Nat.succ_mul]
      omega
theorem ok_lset {f : Addr} {fd : FuncData} (Dd : Df K mg "_law_settings" s__law_settings f fd P__law_settings) (Z : Zs mg) : Cal P₀ w K mg base "_law_settings" 1 sp_lset := by
  refine Dd.cal sc__law_settings (fun ds M P PE h => ?_) (fun cdv A outer s H E ds M P PE hr tk h => ⟨_, (dss_cons (ds_set 2 sc__law_settings.nd (de_lst (da_cons (de_lst da_nil) da_nil)))
    (dss_cons (ds_for (passes_of rfl) (di_rg1 Z.rng (de_var 1)) (dg_name 3 sc__law_settings.nd) (dss_cons (ds_set 4 sc__law_settings.nd (de_lst da_nil))
    (dss_cons (ds_for (passes_of rfl) (di_sq (de_var 2)) (dg_name 5 sc__law_settings.nd) (dss_one (ds_expr (de_mt PySem.F.slot_list_extend PySem.F.type_list_extend mt_ext (de_var 4) (da_cons (de_lc sc__law_settings.nd (own := [("content", 6)]) (di_rg1 Z.rng (de_var 0)) (blkOk_by (N := N__law_settings) (sc := defScope s__law_settings) (by decide +kernel)) (ct_name 6)
      (fun _ _ _ _ _ => (pg_name (i := 6) sc__law_settings.nd rfl (.inl rfl))) (fun _ _ _ _ _ => dts_nil) (fun _ _ _ _ _ => (de_op or_add (de_var 5) (de_lst (da_cons (de_var 6) da_nil))))) da_nil)))))
    (dss_one (ds_set 2 sc__law_settings.nd (de_var 4))))))
    (dss_one (ds_ret (de_var 2))))), ?_⟩)
  · obtain ⟨_, _, rfl, _⟩ := h
    rfl
  · obtain ⟨n, m, rfl, hn, hm, qq⟩ := h
    have big : ∀ i, i ≤ m → n ^ i ≤ 4096 := fun i hi => by
      have a : n ^ i ≤ 8 ^ i := Nat.pow_le_pow_left hn i
      have b : 8 ^ i ≤ 8 ^ 4 := Nat.pow_le_pow_right (by decide) (by omega)
      omega
    walk_at "w"
    refine ⟨Nat.zero_le _, fun a ha => ?_⟩
    have La := les_new (o := .lst []) ha
    have fa : upM M a (.lst []) a = some (.lst []) := upM_same
    generalize upM M a (.lst []) = M1 at La fa ⊢
    walk_at "w"
    refine ⟨(by show 1 ≤ sizeLine; decide), fun b hb => ?_⟩
    have Lb := les_new (o := .lst [.ref a]) hb
    have fb : upM M1 b (.lst [.ref a]) b = some (.lst [.ref a]) := upM_same
    have fa2 := Lb _ _ fa
    have L0 := La.trans Lb
    have hb0 := La.free hb
    generalize upM M1 b (.lst [.ref a]) = M2 at Lb fb fa2 L0 ⊢
    walk_at "w"
    refine ⟨_, rfl, ⟨by omega, by omega⟩, ?_⟩
    refine ⟨fun i s M' => Les M M' ∧ ∃ e x3 x4 x5 x6, s = [some (.int n), some (.int m), some (.ref e), x3, x4, x5, x6] ∧ M e = none ∧ ∃ as : List Addr, (∀ a ∈ as, M a = none) ∧ M' e = some (.lst (as.map D.ref)) ∧ LLs M' as (iL (setS (List.replicate i (n : Int)))), .of ⟨L0, b, _, _, _, _, rfl, hb0, [a], fun x hx => List.mem_singleton.mp hx ▸ ha, fb, .cons fa2 .nil⟩, fun _ _ _ _ _ => trivial, ?_, ?_⟩
    · rintro i x s M' hx ⟨L, e, x3, x4, x5, x6, rfl, me, as, nas, he, hL⟩
      have hl := (List.getElem?_eq_some_iff.mp hx).1
      rw [rgD_len] at hl
      have hb1 := big (i + 1) (by omega)
      rw [← len_rep, set_rep] at hb1
      have rl : ∀ r ∈ setS (List.replicate i (n : Int)), r.length ≤ 100 := fun r hr => by
        rw [set_len _ r hr, List.length_replicate]
        omega
      have st := set_rep n i
      generalize setS (List.replicate i (n : Int)) = rows at hL hb1 rl st
      walk_at "w"
      refine ⟨Nat.zero_le _, fun g hg => ?_⟩
      have Lg := les_new (o := .lst []) hg
      have fg : upM M' g (.lst []) g = some (.lst []) := upM_same
      have L1 := L.trans Lg
      have mg0 := L.free hg
      generalize upM M' g (.lst []) = N1 at Lg fg L1 ⊢
      walk_at "w"
      refine ⟨_, .ref (Lg _ _ he), fun j s M2 => Les M' M2 ∧ (∃ x4 x5 x6, s = [some (.int n), some (.int m), some (.ref e), x4, some (.ref g), x5, x6]) ∧ ∃ bs, M2 g = some (.lst (bs.map D.ref)) ∧ LLs M2 bs (iL (setR (rows.take j) (n : Int))) ∧ ∀ a ∈ bs, a ≠ g ∧ M a = none, .of ⟨Lg, ⟨_, _, _, rfl⟩, [], fg, .nil, fun a h => absurd h List.not_mem_nil⟩, fun j s M2 _ ⟨l, _⟩ => .ref (l _ _ he), ?_, ?_⟩
      · rintro j u s M2 hu ⟨L2, ⟨x4, x5, x6, rfl⟩, bs, hg2, hB, nB⟩
        obtain ⟨c, hc, rfl⟩ := refs_at hu
        obtain ⟨r', hr', hcr⟩ := hL.get hc
        obtain ⟨r, hr, rfl⟩ := iL_at hr'
        have hj := (List.getElem?_eq_some_iff.mp hr).1
        have lr := rl r (List.mem_of_getElem? hr)
        have hcr2 := L2 _ _ hcr
        have gM : g ≠ c := fun z => by rw [z, hcr] at hg; cases hg
        have sj : setR (rows.take (j + 1)) (n : Int) = setR (rows.take j) (n : Int) ++ (List.range n).map fun (c : Nat) => r ++ [(c : Int)] := by
          unfold setR
          rw [List.take_add_one, hr, List.flatMap_append]
          simp [Int.toNat_natCast]
        have bj : (setR (rows.take j) (n : Int)).length + n ≤ 100000 := by
          have e1 : setR rows (n : Int) = setR (rows.take (j + 1)) (n : Int) ++ setR (rows.drop (j + 1)) (n : Int) := by
            unfold setR
            rw [← List.flatMap_append, List.take_append_drop]
          rw [e1, List.length_append, sj, List.length_append, List.length_map, List.length_range] at hb1
          omega
        walk_at "w"
        refine ⟨⟨g, _, rfl, .inl hg2⟩, ?_⟩
        walk_at "w"
        refine ⟨_, rfl, ⟨by omega, by omega⟩, ?_⟩
        refine ⟨fun k acc M3 => Les M2 M3 ∧ ∃ cs, acc = cs.map D.ref ∧ LLs M3 cs (iL ((List.range k).map fun (c : Nat) => r ++ [(c : Int)])) ∧ ∀ a ∈ cs, M2 a = none, ⟨_, .refl _, .refl _, [], rfl, .nil, fun a h => absurd h List.not_mem_nil⟩, fun _ _ _ _ _ => trivial, ?_, ?_⟩
        · rintro k v acc M3 hv ⟨L3, cs, rfl, hC, nC⟩
          obtain ⟨hk, rfl⟩ := rg_at hv
          have lc := hC.len
          walk_at "w"
          refine ⟨(by show 1 ≤ sizeLine; decide), fun x hx => ?_⟩
          have Lx := les_new (o := .lst [.int (k : Nat)]) hx
          have fx : upM M3 x (.lst [.int (k : Nat)]) x = some (.lst [.int (k : Nat)]) := upM_same
          generalize upM M3 x (.lst [.int (k : Nat)]) = M4 at Lx fx ⊢
          refine ⟨_, _, Lx _ _ (L3 _ _ hcr2), fx, size_ok (by simp; omega), fun y hy => ?_⟩
          have Ly := les_new (o := .lst (r.map D.int ++ [.int (k : Nat)])) hy
          have fy : upM M4 y (.lst (r.map D.int ++ [.int (k : Nat)])) y = some (.lst ((r ++ [(k : Int)]).map D.int)) := by rw [upM_same]; simp
          generalize upM M4 y (.lst (r.map D.int ++ [.int (k : Nat)])) = M5 at Ly fy ⊢
          refine ⟨size_ok (by rw [List.length_map, lc]; simp; omega), _, .refl _, (L3.trans Lx).trans Ly, cs ++ [y], by simp, ?_, fun a ha => ?_⟩
          · rw [List.range_succ, List.map_append]
            unfold iL
            rw [List.map_append]
            exact (hC.les (Lx.trans Ly)).app (.cons fy .nil)
          · rcases List.mem_append.mp ha with h | h
            · exact nC a h
            · rw [List.mem_singleton.mp h]
              exact (L3.trans Lx).free hy
        · rintro acc M3 ⟨L3, cs, rfl, hC, nC⟩ h hh
          rw [rg_len] at hC
          have Lh := les_new (o := .lst (cs.map D.ref)) hh
          have fh : upM M3 h (.lst (cs.map D.ref)) h = some (.lst (cs.map D.ref)) := upM_same
          generalize upM M3 h (.lst (cs.map D.ref)) = M4 at Lh fh ⊢
          have L4 := L3.trans Lh
          have lc : cs.length = n := by rw [hC.len]; simp
          have lb : bs.length = (setR (rows.take j) (n : Int)).length := by rw [hB.len]; simp
          refine ⟨g, .ref h, _, _, rfl, rfl, L4 _ _ hg2, .inr ⟨h, rfl, fh⟩, Nat.le_trans (show _ ≤ 100000 by rw [List.length_map, List.length_map]; omega) (by decide), ?_⟩
          have nc : ∀ a ∈ cs, a ≠ g := fun a ha z => by have := nC a ha; rw [z, hg2] at this; cases this
          refine ⟨_, _, Lss.refl _, Les.refl _, les_free (L2.trans L4) hg, ⟨_, _, _, rfl⟩, bs ++ cs, by rw [upM_same, List.map_append], ?_, fun a ha => ?_⟩
          · rw [sj]
            unfold iL
            rw [List.map_append]
            exact ((hB.les L4).up fun a h => (nB a h).1).app ((hC.les Lh).up nc)
          · rcases List.mem_append.mp ha with z | z
            · exact nB a z
            · exact ⟨nc a z, (L.trans L2).free (nC a z)⟩
      · rintro s M2 ⟨L2, ⟨x4, x5, x6, rfl⟩, bs, hg2, hB, nB⟩
        rw [List.length_map, hL.len, List.length_map, List.take_length] at hB
        exact ⟨_, _, Lss.refl _, Les.refl _, L.trans L2, g, _, _, _, _, rfl, mg0, bs, fun a h => (nB a h).2, hg2, by rw [st]; exact hB⟩
    · rintro s M' ⟨L, e, x3, x4, x5, x6, rfl, me, as, nas, he, hL⟩
      rw [rgD_len] at hL
      walk_at "w"
      exact Lk.of (qq e as _ L me nas he (by simpa using hL))
end
end K83
set_option linter.all false
namespace K83
open PySem PySem.Spec PyProof.Rows L2 DL
local macro_rules | `(tactic| walk_at "w") => `(tactic| conv => whnf)
theorem pu_str (x : Str) (h : PyData.strOk x = true := by decide +kernel) : Pu (.str x) := ⟨.str x, fun M => .str x, by simp only [PyData.canLay0]; exact h, by simp only [PyData.depth]; omega⟩
def numL (mv : Int) (r : List Int) : Int := r.foldl (fun a c => a * mv + c) 0
section
variable {P₀ : Program} {w : World} {K : PySem.W.Frag} {mg : Str → Option Value} {base : Heap}
abbrev s__law_number : Stmt := top 60
abbrev N__law_number : List Str := ["many", "setting", "number", "content"]
abbrev P__law_number : List Str := ["many", "setting"]
theorem sc__law_number : FnScope N__law_number P__law_number (defScope s__law_number) := ⟨rfl, rfl, rfl, by decide +kernel, rfl, by decide +kernel, by decide +kernel⟩
def sp_lnum : DSp := fun ds M Q _ => ∃ (d : D) (mv : Int) (r : List Int), ds = [.int mv, d] ∧ SqD M d (r.map D.int) ∧ Sm mv ∧ Q (.int (numL mv r)) M
theorem ok_lnum {f : Addr} {fd : FuncData} (Dd : Df K mg "_law_number" s__law_number f fd P__law_number) (Z : Zs mg) : Cal P₀ w K mg base "_law_number" 1 sp_lnum := by
  refine Dd.cal sc__law_number (fun ds M P PE h => ?_) (fun cdv A outer s H E ds M P PE hr tk h => ⟨_, (dss_cons (ds_set 2 sc__law_number.nd de_int)
    (dss_cons (ds_for (passes_of rfl) (di_sq (de_var 1)) (dg_name 3 sc__law_number.nd) (dss_one (ds_set 2 sc__law_number.nd (de_op or_add (de_op or_mul (de_var 2) (de_var 0)) (de_var 3)))))
    (dss_one (ds_ret (de_var 2))))), ?_⟩)
  · obtain ⟨_, _, _, rfl, _⟩ := h
    rfl
  · obtain ⟨d, mv, r, rfl, hd, hm, q⟩ := h
    walk_at "w"
    refine ⟨_, hd, fun i s M' => M' = M ∧ ∃ y, s = [some (.int mv), some d, some (.int (numL mv (r.take i))), y], .of ⟨rfl, _, rfl⟩, fun i s M' _ ⟨e, _⟩ => e ▸ hd, ?_, ?_⟩
    · rintro i x s M' hx ⟨rfl, y, rfl⟩
      obtain ⟨c, h1, rfl⟩ := int_at hx
      walk_at "w"
      refine ⟨.inr hm, ?_⟩
      refine ⟨_, _, Lss.refl _, Les.refl _, rfl, some (.int c), ?_⟩
      unfold numL
      rw [List.take_add_one, h1, List.foldl_append]
      rfl
    · rintro s M' ⟨rfl, y, rfl⟩
      walk_at "w"
      rw [List.length_map, List.take_length]
      exact Lk.of q
abbrev s__law_bends : Stmt := top 50
abbrev N__law_bends : List Str := ["deal", "size", "kind", "ties", "three", "bends", "bits", "bend", "one", "other", "part"]
abbrev P__law_bends : List Str := ["deal", "size"]
theorem sc__law_bends : FnScope N__law_bends P__law_bends (defScope s__law_bends) := ⟨rfl, rfl, rfl, by decide +kernel, rfl, by decide +kernel, by decide +kernel⟩
def sp_bends : DSp := fun ds M Q _ => ∃ (p q : Addr) (n : Nat) (N : DHp), ds = [.ref p, .int n] ∧ Rs N M p q ∧ 3 ≤ n ∧ n ≤ 4 ∧ ∀ e (bs : List Int) N' M', Les N N' → N e = none → N' e = some (.lst (bs.map D.int)) → bs.length = 2 ^ n → Rs N' M' p q → Q (.ref e) M'
theorem ok_bends {f : Addr} {fd : FuncData} (Dd : Df K mg "_law_bends" s__law_bends f fd P__law_bends) (Z : Zs mg) (G__law_draw : Cal P₀ w K mg base "_law_draw" 1 sp_draw) (G__law_pick : Cal P₀ w K mg base "_law_pick" 2 sp_lpick) (G__law_mixed : Cal P₀ w K mg base "_law_mixed" 2 sp_mixed) (G__law_settings : Cal P₀ w K mg base "_law_settings" 1 sp_lset) : Cal P₀ w K mg base "_law_bends" 3 sp_bends := by
  refine Dd.cal sc__law_bends (fun ds M P PE h => ?_) (fun cdv A outer s H E ds M P PE hr tk h => ⟨_, (dss_cons (ds_set 2 sc__law_bends.nd (de_call G__law_pick (hr.mono (by decide)) tk (da_cons (de_var 0) (da_cons (de_lst (da_cons de_str (da_cons de_str (da_cons de_str (da_cons de_str (da_cons de_str (da_cons de_str da_nil))))))) da_nil))))
    (dss_cons (ds_set 3 sc__law_bends.nd (de_lc sc__law_bends.nd (own := [("one", 8)]) (di_rg1 Z.rng (de_var 1)) (blkOk_by (N := N__law_bends) (sc := defScope s__law_bends) (by decide +kernel)) (ct_name 8)
      (fun _ _ _ _ _ => (pg_name (i := 8) sc__law_bends.nd rfl (.inl rfl))) (fun _ _ _ _ _ => dts_nil) (fun _ _ _ _ _ => (de_lc sc__law_bends.nd (own := [("other", 9)]) (di_rg1 Z.rng (de_var 8)) (blkOk_by rfl) (ct_name 9)
      (fun _ _ _ _ _ => (pg_name (i := 9) sc__law_bends.nd rfl (.inl rfl))) (fun _ _ _ _ _ => dts_nil) (fun _ _ _ _ _ => (de_cmp or_gt (de_call G__law_draw (hr.mono (by decide)) tk0 (da_cons (de_var 0) (da_cons de_int da_nil))) de_int))))))
    (dss_cons (ds_par2 4 5 sc__law_bends.nd (da_cons (de_sl (de_call G__law_mixed (hr.mono (by decide)) tk (da_cons (de_var 0) (da_cons (de_lstRg1 Z.lst Z.rng (de_var 1)) da_nil))) dpo_none (dpo_some de_int)) (da_cons (de_lst da_nil) da_nil)))
    (dss_cons (ds_for (passes_of rfl) (di_sq (de_call G__law_settings (hr.mono (by decide)) tk (da_cons de_int (da_cons (de_var 1) da_nil)))) (dg_name 6 sc__law_bends.nd) (dss_cons (ds_set 7 sc__law_bends.nd de_int)
    (dss_cons (ds_if (dt_cmp (or_eq hr.r.units) (de_var 2) de_str) (dss_one (ds_for (passes_of rfl) (di_rg1 Z.rng (de_var 1)) (dg_name 8 sc__law_bends.nd) (dss_one (ds_set 7 sc__law_bends.nd (de_op or_add (de_var 7) (de_fnB (cr_sumD rfl) Z.sum (da_cons (de_lc sc__law_bends.nd (own := [("other", 9)]) (di_rg1 Z.rng (de_var 8)) (blkOk_by (N := N__law_bends) (sc := defScope s__law_bends) (by decide +kernel)) (ct_name 9)
      (fun _ _ _ _ _ => (pg_name (i := 9) sc__law_bends.nd rfl (.inl rfl))) (fun _ _ _ _ _ => (dts_one (dt_tru (de_ix (de_ix (de_var 3) (de_var 8)) (de_var 9))))) (fun _ _ _ _ _ => (de_op or_mul (de_ix (de_var 6) (de_var 8)) (de_ix (de_var 6) (de_var 9))))) da_nil))))))) (dss_one (ds_if (dt_cmp (or_eq hr.r.units) (de_var 2) de_str) (dss_one (ds_set 7 sc__law_bends.nd (de_fnB (cr_minL rfl) Z.min (da_cons (de_lc sc__law_bends.nd (own := [("part", 10)]) (di_sq (de_var 4)) (blkOk_by (N := N__law_bends) (sc := defScope s__law_bends) (by decide +kernel)) (ct_name 10)
      (fun _ _ _ _ _ => (pg_name (i := 10) sc__law_bends.nd rfl (.inl rfl))) (fun _ _ _ _ _ => dts_nil) (fun _ _ _ _ _ => (de_ix (de_var 6) (de_var 10)))) da_nil)))) (dss_one (ds_if (dt_cmp (or_eq hr.r.units) (de_var 2) de_str) (dss_one (ds_set 7 sc__law_bends.nd (de_call G__law_draw (hr.mono (by decide)) tk (da_cons (de_var 0) (da_cons de_int da_nil))))) dss_nil)))))
    (dss_one (ds_expr (de_mt PySem.F.slot_list_append PySem.F.type_list_append mt_app (de_var 5) (da_cons (de_op or_mod (de_fnT cr_int Z.int (da_cons (de_var 7) da_nil)) de_int) da_nil)))))))
    (dss_one (ds_ret (de_var 5))))))), ?_⟩)
  · obtain ⟨_, _, _, _, rfl, _⟩ := h
    rfl
  · obtain ⟨p, q, n, N, rfl, R, n3, n4, qq⟩ := h
    walk_at "w"
    refine ⟨(by show 6 ≤ sizeLine; decide), fun a ha => ?_⟩
    have Ra := R.new (o := .lst [.str "none", .str "pairs", .str "pairs", .str "pairs", .str "three", .str "any"]) ha
    have La := R.newl (o := .lst [.str "none", .str "pairs", .str "pairs", .str "pairs", .str "three", .str "any"]) ha
    have fa : upM N a (.lst [.str "none", .str "pairs", .str "pairs", .str "pairs", .str "three", .str "any"]) a = some (.lst [.str "none", .str "pairs", .str "pairs", .str "pairs", .str "three", .str "any"]) := upM_same
    refine ⟨p, q, .ref a, _, _, rfl, Ra, .ref fa, by decide, by decide, fun kd M1 R1 hk => ?_⟩
    replace R1 := R1.les La
    obtain ⟨z, rfl⟩ : ∃ z : Str, kd = .str z := by
      simp only [List.mem_cons, List.not_mem_nil, or_false] at hk
      rcases hk with rfl | rfl | rfl | rfl | rfl | rfl <;> exact ⟨_, rfl⟩
    clear hk Ra La fa
    walk_at "w"
    refine ⟨_, rfl, ⟨by omega, by omega⟩, ?_⟩
    refine ⟨fun i acc M' => ∃ (N' : DHp) (as : List Addr) (rs : List (List Bool)), Les N N' ∧ Rs N' M' p q ∧ acc = as.map D.ref ∧ LLs N' as (rs.map fun r => r.map D.bl) ∧ rs.length = i ∧ ∀ (j : Nat) (r : List Bool), rs[j]? = some r → r.length = j, ⟨_, .refl _, N, [], [], .refl _, R1, rfl, .nil, rfl, fun j r h => by simp at h⟩, fun _ _ _ _ _ => trivial, ?_, ?_⟩
    · rintro i x acc M' hx ⟨N', as, rs, L, R', rfl, hL, hl, hj⟩
      have hi := (List.getElem?_eq_some_iff.mp hx).1
      rw [rgD_len] at hi
      rw [rgD_get hi] at hx
      cases hx
      walk_at "w"
      refine ⟨_, rfl, ⟨by omega, by omega⟩, ?_⟩
      refine ⟨fun k acc M2 => Rs N' M2 p q ∧ ∃ bs : List Bool, acc = bs.map D.bl ∧ bs.length = k, ⟨_, .refl _, R', [], rfl, rfl⟩, fun _ _ _ _ _ => trivial, ?_, ?_⟩
      · rintro k y acc M2 hy ⟨R2, bs, rfl, hb⟩
        have hk := (List.getElem?_eq_some_iff.mp hy).1
        rw [rgD_len] at hk
        rw [rgD_get hk] at hy
        cases hy
        walk_at "w"
        refine ⟨p, q, 3, N', rfl, R2, by decide, by decide, fun r M3 R3 r1 r2 => ?_⟩
        refine ⟨size_ok (by simp; omega), _, .refl _, R3, bs ++ [decide (0 < r)], by simp, by simp; omega⟩
      · rintro acc M2 ⟨R2, bs, rfl, hb⟩ g hg
        rw [rgD_len] at hb
        have R3 := R2.new (o := .lst (bs.map D.bl)) hg
        have L3 := R2.newl (o := .lst (bs.map D.bl)) hg
        refine ⟨size_ok (by simp; have := hL.len; simp at this; omega), _, .refl _, _, as ++ [g], rs ++ [bs], L.trans L3, R3, by simp, ?_, by simp; omega, fun j r h => ?_⟩
        · rw [List.map_append]
          exact (hL.les L3).app (.cons upM_same .nil)
        · by_cases e : j < rs.length
          · rw [List.getElem?_append_left e] at h
            exact hj j r h
          · rw [List.getElem?_append_right (by omega)] at h
            have e2 : j = rs.length := by
              have := (List.getElem?_eq_some_iff.mp h).1
              simp at this
              omega
            subst e2
            simp at h
            subst h
            omega
    · rintro acc M2 ⟨N2, as, rs, L, R2, rfl, hL, hl, hj⟩ t ht
      rw [rgD_len] at hl
      have hl : rs.length = n := by omega
      have R3 := R2.new (o := .lst (as.map D.ref)) ht
      have L3 := R2.newl (o := .lst (as.map D.ref)) ht
      have hT : LL (upM N2 t (.lst (as.map D.ref))) t (rs.map fun r => r.map D.bl) := ⟨as, upM_same, hL.les L3⟩
      have L4 := L.trans L3
      generalize upM N2 t (.lst (as.map D.ref)) = N3 at R3 L3 hT L4
      generalize upM M2 t (.lst (as.map D.ref)) = M3 at R3 ⊢
      clear hL L L3 R2 R1
      walk_at "w"
      refine ⟨n, rfl, ⟨by omega, by omega, by omega, by omega, by omega⟩, fun u hu => ?_⟩
      have R5 := R3.new (o := .lst (rgD 0 (n : Int))) hu
      have L5 := R3.newl (o := .lst (rgD 0 (n : Int))) hu
      have fu : upM N3 u (.lst (rgD 0 (n : Int))) u = some (.lst (rgD 0 (n : Int))) := upM_same
      have hT5 := hT.les L5
      have L6 := L4.trans L5
      generalize upM N3 u (.lst (rgD 0 (n : Int))) = N5 at R5 L5 fu hT5 L6
      generalize upM M3 u (.lst (rgD 0 (n : Int))) = M5 at R5 ⊢
      have pr : ∀ d ∈ rgD 0 (n : Int), ∃ j : Nat, j < n ∧ d = .int j := fun d hd => by
        obtain ⟨i, hi⟩ := List.getElem?_of_mem hd
        have hl := (List.getElem?_eq_some_iff.mp hi).1
        rw [rgD_len] at hl
        rw [rgD_get hl] at hi
        cases hi
        exact ⟨i, by omega, by simp⟩
      refine ⟨p, q, .ref u, rgD 0 (n : Int), N5, rfl, R5, .ref fu, fun d hd => ?_, by rw [rgD_len]; omega, fun e ys N6 M6 pm L7 ne fe R6 => ?_⟩
      · obtain ⟨j, _, rfl⟩ := pr d hd
        exact pu_int _
      walk_at "w"
      refine ⟨3, rfl, ?_⟩
      walk_at "w"
      refine ⟨ys, .inl (R6.l _ _ fe), fun g hg => ?_⟩
      have hys : ∀ d ∈ DL.cutD ys none (some 3), ∃ j : Nat, j < n ∧ d = .int j := fun d hd => pr d (pm.subset (by
        unfold DL.cutD at hd
        exact List.mem_of_mem_drop (List.mem_of_mem_take hd)))
      have lys : 0 < (DL.cutD ys none (some 3)).length := by
        have := pm.length_eq
        rw [rgD_len] at this
        rw [show (3 : Int) = ((3 : Nat) : Int) from rfl, cut_to, List.length_take]
        omega
      have lys9 : (DL.cutD ys none (some 3)).length ≤ 100 := by
        rw [show (3 : Int) = ((3 : Nat) : Int) from rfl, cut_to, List.length_take]
        omega
      generalize DL.cutD ys none (some 3) = th at hys lys lys9 ⊢
      have R8 := R6.new (o := .lst th) hg
      have L8 := R6.newl (o := .lst th) hg
      have fg : upM N6 g (.lst th) g = some (.lst th) := upM_same
      have hT8 := (hT5.les L7).les L8
      have L9 := (L6.trans L7).trans L8
      generalize upM N6 g (.lst th) = N8 at R8 L8 fg hT8 L9
      generalize upM M6 g (.lst th) = M8 at R8 ⊢
      clear fe R6 pm hT5 hT fu
      walk_at "w"
      refine ⟨Nat.zero_le _, fun v hv => ?_⟩
      have R10 := R8.new (o := .lst []) hv
      have L10 := R8.newl (o := .lst []) hv
      have fv : upM N8 v (.lst []) v = some (.lst []) := upM_same
      have nv := L9.free (R8.nep hv).2.2
      have gv : g ≠ v := fun z => by have := (R8.nep hv).2.2; rw [← z, fg] at this; cases this
      have fg10 := L10 _ _ fg
      have hT10 := hT8.les L10
      have L11 := L9.trans L10
      have vt : ∃ Nz, Les N Nz ∧ Les Nz (upM N8 v (.lst [])) ∧ Nz v = none ∧ LL Nz t (rs.map fun r => r.map D.bl) ∧ Nz g = some (.lst th) := ⟨N8, L9, L10, (R8.nep hv).2.2, hT8, fg⟩
      obtain ⟨Nz, z1, z2, z3, z4, z5⟩ := vt
      generalize upM N8 v (.lst []) = N10 at R10 fv z2
      generalize upM M8 v (.lst []) = M10 at R10 ⊢
      clear fg10 hT10 L11 L10 R8 fg hT8 L9 hv
      walk_at "w"
      refine ⟨2, n, rfl, by decide, n4, fun b as2 M12 L12 nb na hb hB => ?_⟩
      obtain ⟨Ny, y1, y2, y3, R12⟩ := R10.newLL2 L12 nb na hb hB fv z2 z3
      have y4 := z4.les y1
      have y5 := y1 _ _ z5
      have y6 := z1.trans y1
      clear z1 z2 z3 z4 z5 fv hb hB nb na L12 R10
      have hsl : ∀ (j : Nat) (r : List Int), (setS (List.replicate n ((2 : Nat) : Int)))[j]? = some r → r.length = n ∧ ∀ c ∈ r, 0 ≤ c ∧ c < 2 := fun j r h => by
        have hr := mem_setS.mp (List.mem_of_getElem? h)
        refine ⟨by rw [hr.1]; simp, fun c hc => ?_⟩
        obtain ⟨k, hk, rfl⟩ := List.getElem_of_mem hc
        have l0 := hr.1
        have := hr.2 k (by omega)
        rw [List.getD_eq_getElem?_getD, List.getElem?_eq_getElem hk, List.getD_eq_getElem?_getD, List.getElem?_replicate] at this
        rw [List.length_replicate] at l0
        rw [if_pos (by omega)] at this
        exact this
      have hll : (setS (List.replicate n ((2 : Nat) : Int))).length = 2 ^ n := len_rep 2 n
      generalize setS (List.replicate n ((2 : Nat) : Int)) = rows at y3 hsl hll
      obtain ⟨asb, yb, yB⟩ := y3
      refine ⟨_, .ref (R12.l _ _ (les_new y2 _ _ yb)), fun i s M' => ∃ bs : List Int, Rs (upM Ny v (.lst (bs.map D.int))) M' p q ∧ bs.length = i ∧ ∃ x6 x7 x8 x9 x10, s = [some (.ref p), some (.int n), some (.str z), some (.ref t), some (.ref g), some (.ref v), x6, x7, x8, x9, x10], .of ⟨[], R12, rfl, _, _, _, _, _, rfl⟩, fun i s M' _ ⟨bs, R', _⟩ => .ref (R'.l _ _ (les_new y2 _ _ yb)), ?_, ?_⟩
      · rintro i x s M' hx ⟨bs, R', hbs, x6, x7, x8, x9, x10, rfl⟩
        obtain ⟨c, hc, rfl⟩ := refs_at hx
        obtain ⟨r0, hr0, yc⟩ := yB.get hc
        obtain ⟨r, hr, rfl⟩ := iL_at hr0
        obtain ⟨lr, cr⟩ := hsl _ _ hr
        have bit : ∀ {j : Nat}, j < n → ∃ c : Int, atI (r.map D.int) (j : Int) = some (.int c) ∧ 0 ≤ c ∧ c < 2 := fun {j} hj => ⟨r[j]'(by omega), ints_at (List.getElem?_eq_getElem _), cr _ (List.getElem_mem _)⟩
        have fin : ∀ (k : Int) (M2 : DHp) (x8 x9 x10 : Option D), Rs (upM Ny v (.lst (bs.map D.int))) M2 p q → sDrop (dMt appD (dVar 5) (aCons (dOp modD (dFn DL.intD (aCons (dVar 7) aNil)) (dC (D.int 2))) aNil))
            { nx := Wk fun s M' => ∃ bs : List Int, Rs (upM Ny v (.lst (bs.map D.int))) M' p q ∧ bs.length = i + 1 ∧ ∃ x6 x7 x8 x9 x10, s = [some (.ref p), some (.int n), some (.str z), some (.ref t), some (.ref g), some (.ref v), x6, x7, x8, x9, x10], rt := Lk P } [some (.ref p), some (.int n), some (.str z), some (.ref t), some (.ref g), some (.ref v), some (.ref c), some (.int k), x8, x9, x10] M2 := fun k M2 x8 x9 x10 R2 => by
          walk_at "w"
          refine ⟨⟨v, _, rfl, .inl (R2.l _ _ upM_same)⟩, ?_⟩
          walk_at "w"
          refine ⟨by decide, ?_⟩
          have hi : i < 2 ^ n := by
            have := (List.getElem?_eq_some_iff.mp hr).1
            omega
          have h16 : 2 ^ n ≤ 2 ^ 4 := Nat.pow_le_pow_right (by decide) n4
          refine ⟨v, _, _, rfl, rfl, R2.l _ _ upM_same, size_ok (by simp; omega), ?_⟩
          have R3 := R2.put (e := v) (o := .lst (bs.map D.int ++ [.int (k % 2)])) upM_same
          rw [upM_two] at R3
          exact .of ⟨bs ++ [k % 2], by rw [List.map_append]; exact R3, by simp [hbs], _, _, _, _, _, rfl⟩
        have yc' : ∀ {M2 : DHp}, Rs (upM Ny v (.lst (bs.map D.int))) M2 p q → M2 c = some (.lst (r.map D.int)) := fun R2 => R2.l _ _ (les_new y2 _ _ yc)
        walk_at "w"
        refine ifB_mk (fun h1 => ?_) (fun h1 => ?_)
        · walk_at "w"
          refine ⟨_, rfl, ⟨by omega, by omega⟩, ?_⟩
          refine ⟨fun k s M2 => Rs (upM Ny v (.lst (bs.map D.int))) M2 p q ∧ ∃ (e : Int) (x8 x9 x10 : Option D), s = [some (.ref p), some (.int n), some (.str z), some (.ref t), some (.ref g), some (.ref v), some (.ref c), some (.int e), x8, x9, x10], .of ⟨R', _, _, _, _, rfl⟩, fun _ _ _ _ _ => trivial, ?_, ?_⟩
          · rintro k x s M2 hx ⟨R2, e, x8, x9, x10, rfl⟩
            have hk := (List.getElem?_eq_some_iff.mp hx).1
            rw [rgD_len] at hk
            rw [rgD_get hk] at hx
            cases hx
            have hk : k < n := by omega
            rw [Int.zero_add]
            walk_at "w"
            refine ⟨_, rfl, ⟨by omega, by omega⟩, ?_⟩
            refine ⟨fun m acc M3 => Rs (upM Ny v (.lst (bs.map D.int))) M3 p q ∧ ∃ es : List Int, acc = es.map D.int ∧ es.length ≤ m, ⟨_, .refl _, R2, [], rfl, Nat.le_refl _⟩, fun _ _ _ _ _ => trivial, ?_, ?_⟩
            · rintro m x acc M3 hx ⟨R3, es, rfl, les⟩
              have hm := (List.getElem?_eq_some_iff.mp hx).1
              rw [rgD_len] at hm
              rw [rgD_get hm] at hx
              cases hx
              have hm : m < k := by omega
              rw [Int.zero_add]
              have hrk : rs[k]? = some (rs[k]'(by omega)) := List.getElem?_eq_getElem _
              have lrk := hj _ _ hrk
              generalize rs[k]'(by omega) = rk at hrk lrk
              obtain ⟨ak, dk, t1, t2, t3⟩ := ((y4.les (les_new y2)).les R3.l).at (i := k) (r := rk.map D.bl) (by rw [List.getElem?_map, hrk]; rfl)
              obtain ⟨c1, b1, b2, b3⟩ := bit (j := k) hk
              obtain ⟨c2, b4, b5, b6⟩ := bit (j := m) (by omega)
              have hc3 := yc' R3
              walk_at "w"
              refine .inl ⟨_, _, _, .ref t1, rfl, t2, ?_⟩
              walk_at "w"
              refine .inl ⟨_, _, .bl (rk[m]'(by omega)), .ref t3, rfl, atI_nat (by rw [List.getElem?_map, List.getElem?_eq_getElem (by omega)]; rfl), ?_⟩
              walk_at "w"
              refine ifB_mk (fun h2 => ?_) (fun h2 => ?_)
              · walk_at "w"
                refine .inl ⟨_, _, _, .ref hc3, rfl, b1, ?_⟩
                walk_at "w"
                refine .inl ⟨_, _, _, .ref hc3, rfl, b4, ?_⟩
                walk_at "w"
                refine ⟨.inr ⟨by omega, by omega⟩, size_ok (by simp; omega), _, .refl _, R3, es ++ [c1 * c2], by simp, by simp; omega⟩
              · exact ⟨_, .refl _, R3, es, rfl, by omega⟩
            · rintro acc M3 ⟨R3, es, rfl, les⟩ h hh
              have R4 := R3.new (o := .lst (es.map D.int)) hh
              have L4 := R3.newl (o := .lst (es.map D.int)) hh
              have f4 : upM M3 h (.lst (es.map D.int)) h = some (.lst (es.map D.int)) := upM_same
              replace R4 := R4.les L4
              generalize upM M3 h (.lst (es.map D.int)) = M4 at R4 f4 ⊢
              refine ⟨h, es, rfl, .inl f4, ?_⟩
              exact ⟨_, _, Lss.refl _, Les.refl _, R4, _, _, _, _, rfl⟩
          · rintro s M2 ⟨R2, e, x8, x9, x10, rfl⟩
            exact fin _ _ _ _ _ R2
        · walk_at "w"
          refine ifB_mk (fun h2 => ?_) (fun h2 => ?_)
          · walk_at "w"
            refine ⟨_, .ref (R'.l _ _ (les_new y2 _ _ y5)), fun m acc M3 => M3 = M' ∧ ∃ es : List Int, acc = es.map D.int ∧ es.length = m, ⟨_, .refl _, rfl, [], rfl, rfl⟩, fun m acc M3 _ ⟨h, _⟩ => h ▸ .ref (R'.l _ _ (les_new y2 _ _ y5)), ?_, ?_⟩
            · rintro m x acc M3 hx ⟨rfl, es, rfl, les⟩
              obtain ⟨j, hj1, rfl⟩ := hys _ (List.mem_of_getElem? hx)
              obtain ⟨c1, b1, b2, b3⟩ := bit (j := j) hj1
              walk_at "w"
              refine .inl ⟨_, _, _, .ref (yc' R'), rfl, b1, ?_⟩
              have hm := (List.getElem?_eq_some_iff.mp hx).1
              have hm : m < th.length := hm
              exact ⟨size_ok (by simp; omega), _, .refl _, rfl, es ++ [c1], by simp, by simp; omega⟩
            · rintro acc M3 ⟨rfl, es, rfl, les⟩ h hh
              have R4 := R'.new (o := .lst (es.map D.int)) hh
              have L4 := R'.newl (o := .lst (es.map D.int)) hh
              have f4 : upM M3 h (.lst (es.map D.int)) h = some (.lst (es.map D.int)) := upM_same
              replace R4 := R4.les L4
              generalize upM M3 h (.lst (es.map D.int)) = M4 at R4 f4 ⊢
              have les : es.length = th.length := les
              refine ⟨h, es, rfl, .inl f4, by omega, fun m _ _ => ?_⟩
              exact fin _ _ _ _ _ R4
          · walk_at "w"
            refine ifB_mk (fun h3 => ?_) (fun h3 => ?_)
            · walk_at "w"
              refine ⟨p, q, 2, _, rfl, R', by decide, by decide, fun r M3 R3 r1 r2 => ?_⟩
              exact fin _ _ _ _ _ R3
            · exact fin _ _ _ _ _ R'
      · rintro s M' ⟨bs, R', hbs, x6, x7, x8, x9, x10, rfl⟩
        walk_at "w"
        rw [List.length_map, yB.len, List.length_map, hll] at hbs
        exact Lk.of (qq v bs _ _ (y6.trans (les_new y2)) nv upM_same hbs R')
end
end K83
set_option linter.all false
namespace K83
open PySem PySem.Spec PyProof.Rows L2 DL
theorem isS_rep {n m : Nat} {r : List Int} : IsS (List.replicate n (m : Int)) r ↔ r.length = n ∧ ∀ i, i < n → 0 ≤ r.getD i 0 ∧ r.getD i 0 < m := by
  unfold IsS
  rw [List.length_replicate]
  constructor
  · rintro ⟨a, b⟩
    refine ⟨a, fun i hi => ?_⟩
    have := b i hi
    rw [List.getD_eq_getElem?_getD (l := List.replicate n (m : Int)), List.getElem?_replicate, if_pos hi] at this
    exact this
  · rintro ⟨a, b⟩
    refine ⟨a, fun i hi => ?_⟩
    rw [List.getD_eq_getElem?_getD (l := List.replicate n (m : Int)), List.getElem?_replicate, if_pos hi]
    exact b i hi
/-- a row of the numbers below m -/
structure Prm (m : Nat) (l : List Int) : Prop where
  len : l.length = m
  rng : ∀ i, i < m → 0 ≤ l.getD i 0 ∧ l.getD i 0 < m
  inj : ∀ i j, i < m → j < m → l.getD i 0 = l.getD j 0 → i = j
  sur : ∀ v : Int, 0 ≤ v → v < m → ∃ i, i < m ∧ l.getD i 0 = v
  nd : l.Nodup
theorem prm_of {m : Nat} {l : List Int} (h : l.Perm ((List.range m).map fun (i : Nat) => (i : Int))) : Prm m l := by
  have len : l.length = m := by rw [h.length_eq]; simp
  have nd : l.Nodup := by
    rw [h.nodup_iff]
    exact List.Pairwise.map _ (fun a b n z => n (Int.ofNat.inj z)) List.nodup_range
  refine ⟨len, fun i hi => ?_, fun i j hi hj e => ?_, fun v v0 v1 => ?_, nd⟩
  · have := h.subset (getD_mem2 (l := l) (i := i) (by omega))
    obtain ⟨k, hk, e⟩ := List.mem_map.mp this
    have := List.mem_range.mp hk
    rw [← e]
    omega
  · rw [List.getD_eq_getElem?_getD, List.getD_eq_getElem?_getD, List.getElem?_eq_getElem (by omega), List.getElem?_eq_getElem (by omega)] at e
    have e : l[i]'(by omega) = l[j]'(by omega) := e
    exact (List.getElem_inj nd).mp e
  · have hm : v ∈ l := h.symm.subset (List.mem_map.mpr ⟨v.toNat, List.mem_range.mpr (by omega), by omega⟩)
    obtain ⟨i, hi, e⟩ := List.getElem_of_mem hm
    exact ⟨i, by omega, by rw [List.getD_eq_getElem?_getD, List.getElem?_eq_getElem hi]; exact e⟩
theorem prm_rg {m : Nat} {ys : List D} (h : ys.Perm (rgD 0 (m : Int))) : ∃ l : List Int, ys = l.map D.int ∧ Prm m l := by
  have e : rgD 0 (m : Int) = ((List.range m).map fun (i : Nat) => (i : Int)).map D.int := by
    unfold rgD
    rw [List.map_map]
    simp
  rw [e] at h
  have all : ∀ d ∈ ys, ∃ i, d = D.int i := fun d hd => by
    obtain ⟨i, _, e⟩ := List.mem_map.mp (h.subset hd)
    exact ⟨i, e.symm⟩
  have e2 : ys = (ys.map toI).map D.int := by
    rw [List.map_map]
    refine (List.map_id ys).symm.trans (List.map_congr_left fun d hd => ?_)
    obtain ⟨i, rfl⟩ := all d hd
    rfl
  refine ⟨ys.map toI, e2, prm_of ?_⟩
  have := h.map toI
  rw [map_toI] at this
  exact this
theorem prm_at {m : Nat} {l : List Int} (h : Prm m l) {c : Int} (c0 : 0 ≤ c) (c1 : c < m) : ∃ v, atI (l.map D.int) c = some (.int v) ∧ v = l.getD c.toNat 0 := by
  obtain ⟨k, rfl⟩ : ∃ k : Nat, c = k := ⟨c.toNat, by omega⟩
  refine ⟨_, ints_at (List.getElem?_eq_getElem (by rw [h.len]; omega)), ?_⟩
  rw [Int.toNat_natCast, List.getD_eq_getElem?_getD, List.getElem?_eq_getElem (by rw [h.len]; omega)]
  rfl
/-- marks in which each line has all marks -/
def GoodF (m n : Nat) (f : List Int → Int) : Prop := ∀ r, IsS (List.replicate n (m : Int)) r → (0 ≤ f r ∧ f r < m) ∧ ∀ i, i < n → ∀ c : Int, 0 ≤ c → c < m → c ≠ r.getD i 0 → f (r.set i c) ≠ f r
/-- the names of a setting's contents -/
def wts (R : List (List Int)) (r : List Int) : List Int := (List.range r.length).map fun i => (R.getD i []).getD (r.getD i 0).toNat 0
theorem wts_len (R : List (List Int)) (r : List Int) : (wts R r).length = r.length := by simp [wts]
theorem wts_at {R : List (List Int)} {r : List Int} {i : Nat} (h : i < r.length) : (wts R r).getD i 0 = (R.getD i []).getD (r.getD i 0).toNat 0 := by
  unfold wts
  rw [List.getD_eq_getElem?_getD, List.getElem?_map, List.getElem?_range h]
  rfl
theorem wts_set {R : List (List Int)} {r : List Int} {i : Nat} {c : Int} (h : i < r.length) : wts R (r.set i c) = (wts R r).set i ((R.getD i []).getD c.toNat 0) := by
  refine list_eq (by simp [wts_len]) fun j hj => ?_
  rw [List.length_set, wts_len] at hj
  rw [wts_at (by rw [List.length_set]; exact hj)]
  by_cases e : j = i
  · subst e
    rw [getD_set_self hj, getD_set_self (by rw [wts_len]; exact hj)]
  · rw [getD_set_ne (Ne.symm e), getD_set_ne (Ne.symm e), wts_at hj]
theorem sum_list (l : List Int) : l.sum = ((List.range l.length).map fun i => l.getD i 0).sum := by
  conv => lhs; rw [list_get l]
theorem sum_upd {l : List Int} {i : Nat} {v : Int} (h : i < l.length) : (l.set i v).sum = l.sum + (v - l.getD i 0) := by
  rw [sum_list, sum_list l, List.length_set, sum_set (fun j => (l.set i v).getD j 0) (fun j => l.getD j 0) l.length i h fun j hj => getD_set_ne (Ne.symm hj)]
  rw [getD_set_self h]
abbrev hfs (l : List Int) : List Int := l.map (· / 2)
abbrev bin (l : List Int) : Int := l.foldl (fun a h => a * 2 + h) 0
theorem bin_app (l : List Int) (h : Int) : bin (l ++ [h]) = bin l * 2 + h := by simp [bin, List.foldl_append]
theorem bin_bound (l : List Int) : (∀ h ∈ l, 0 ≤ h ∧ h < 2) → 0 ≤ bin l ∧ bin l < 2 ^ l.length := by
  refine rev_ind (P := fun l => (∀ h ∈ l, 0 ≤ h ∧ h < 2) → 0 ≤ bin l ∧ bin l < 2 ^ l.length) ?_ ?_ l
  · intro _; exact ⟨Int.le_refl _, by decide⟩
  · intro l a ih h
    obtain ⟨b0, b1⟩ := ih fun x hx => h x (List.mem_append_left _ hx)
    have ha := h a (by simp)
    rw [bin_app, List.length_append, List.length_singleton, Int.pow_succ]
    omega
/-- marks of two bits -/
def tbF (R : List (List Int)) (bs nm : List Int) : List Int → Int := fun r => nm.getD ((hfs (wts R r)).sum % 2 * 2 + ((wts R r).sum + bs.getD (bin (hfs (wts R r))).toNat 0) % 2).toNat 0
theorem wts_rng {n : Nat} {R : List (List Int)} {r : List Int} {m : Nat} (hR : ∀ i, i < n → Prm m (R.getD i [])) (hr : IsS (List.replicate n (m : Int)) r) : ∀ i, i < n → 0 ≤ (wts R r).getD i 0 ∧ (wts R r).getD i 0 < m := fun i hi => by
  obtain ⟨l, h⟩ := isS_rep.mp hr
  rw [wts_at (by omega)]
  have := h i hi
  exact (hR i hi).rng _ (by omega)
theorem tb_good {n : Nat} {R : List (List Int)} {bs nm : List Int} (hR : ∀ i, i < n → Prm 4 (R.getD i [])) (hn : Prm 4 nm) : GoodF 4 n (tbF R bs nm) := by
  intro r hr
  obtain ⟨l, h⟩ := isS_rep.mp hr
  have idx : ∀ (x y : Int), ∃ k : Nat, x % 2 * 2 + y % 2 = k ∧ k < 4 := fun x y => ⟨(x % 2 * 2 + y % 2).toNat, by omega, by omega⟩
  refine ⟨?_, fun i hi c c0 c1 ne e => ne ?_⟩
  · obtain ⟨k, e, hk⟩ := idx (hfs (wts R r)).sum ((wts R r).sum + bs.getD (bin (hfs (wts R r))).toNat 0)
    unfold tbF
    rw [e, Int.toNat_natCast]
    exact hn.rng k hk
  · unfold tbF at e
    rw [wts_set (by omega)] at e
    have wr := wts_rng hR hr i hi
    have wc := (hR i hi).rng c.toNat (by omega)
    have wi : (wts R r).getD i 0 = (R.getD i []).getD (r.getD i 0).toNat 0 := wts_at (by omega)
    have wl : (wts R r).length = n := by rw [wts_len]; exact l
    have ri := h i hi
    obtain ⟨wv, hw⟩ : ∃ wv, (R.getD i []).getD c.toNat 0 = wv := ⟨_, rfl⟩
    rw [hw] at e wc
    have hs : hfs ((wts R r).set i wv) = (hfs (wts R r)).set i (wv / 2) := by unfold hfs; rw [List.map_set]
    have hg : (hfs (wts R r)).getD i 0 = (wts R r).getD i 0 / 2 := by
      unfold hfs
      rw [List.getD_eq_getElem?_getD, List.getElem?_map, List.getD_eq_getElem?_getD, List.getElem?_eq_getElem (by omega)]
      rfl
    rw [hs, sum_upd (by rw [List.length_map]; omega), sum_upd (by omega), hg] at e
    obtain ⟨k1, e1, h1⟩ := idx ((hfs (wts R r)).sum + (wv / 2 - (wts R r).getD i 0 / 2)) ((wts R r).sum + (wv - (wts R r).getD i 0) + bs.getD (bin ((hfs (wts R r)).set i (wv / 2))).toNat 0)
    obtain ⟨k2, e2, h2⟩ := idx (hfs (wts R r)).sum ((wts R r).sum + bs.getD (bin (hfs (wts R r))).toNat 0)
    rw [e1, e2, Int.toNat_natCast, Int.toNat_natCast] at e
    have ek := hn.inj k1 k2 h1 h2 e
    subst ek
    have half : wv / 2 = (wts R r).getD i 0 / 2 := by omega
    have hset : (hfs (wts R r)).set i (wv / 2) = hfs (wts R r) := by
      rw [half, ← hg]
      refine list_eq (by rw [List.length_set]) fun j hj => ?_
      by_cases q : j = i
      · subst q; rw [getD_set_self (by simpa using hj)]
      · rw [getD_set_ne (Ne.symm q)]
    rw [hset] at e1
    have wq : wv = (wts R r).getD i 0 := by omega
    have := (hR i hi).inj c.toNat (r.getD i 0).toNat (by omega) (by omega) (by rw [hw, wq, wi])
    omega
end K83
set_option linter.all false
namespace K83
open PySem PySem.Spec PyProof.Rows L2 DL
local macro_rules | `(tactic| walk_at "w") => `(tactic| conv => whnf)
theorem sS_at {rows : List (List Int)} {i : Nat} {as : List Addr} {N : DHp} {d : D} (hB : LLs N as (iL rows)) (h : (as.map D.ref)[i]? = some d) : ∃ a r, d = .ref a ∧ rows[i]? = some r ∧ N a = some (.lst (r.map D.int)) := by
  obtain ⟨a, ha, rfl⟩ := refs_at h
  obtain ⟨r', h1, h2⟩ := hB.get ha
  obtain ⟨r, h3, rfl⟩ := iL_at h1
  exact ⟨a, r, rfl, h3, h2⟩
theorem wts_take {R : List (List Int)} {r : List Int} {k : Nat} (h : k < r.length) : (wts R r).take (k + 1) = (wts R r).take k ++ [(R.getD k []).getD (r.getD k 0).toNat 0] := by
  have hl : k < (wts R r).length := by rw [wts_len]; exact h
  rw [List.take_succ_eq_append_getElem hl]
  have e := wts_at (R := R) h
  rw [List.getD_eq_getElem?_getD, List.getElem?_eq_getElem hl] at e
  have e : (wts R r)[k] = _ := e
  rw [e]
theorem sum_one (l : List Int) (a : Int) : (l ++ [a]).sum = l.sum + a := by rw [List.sum_append_int]; simp
theorem pow_le4 {n : Nat} (h : n ≤ 4) {m : Nat} (hm : m ≤ 8) : m ^ n ≤ 4096 := by
  have a : m ^ n ≤ 8 ^ n := Nat.pow_le_pow_left hm n
  have b : 8 ^ n ≤ 8 ^ 4 := Nat.pow_le_pow_right (by decide) h
  omega
section
variable {P₀ : Program} {w : World} {K : PySem.W.Frag} {mg : Str → Option Value} {base : Heap}
abbrev s__law_two_bits : Stmt := top 51
abbrev N__law_two_bits : List Str := ["deal", "size", "rows", "names", "bends", "marks", "setting", "low", "high", "at", "part", "content", "name"]
abbrev P__law_two_bits : List Str := ["deal", "size"]
theorem sc__law_two_bits : FnScope N__law_two_bits P__law_two_bits (defScope s__law_two_bits) := ⟨rfl, rfl, rfl, by decide +kernel, rfl, by decide +kernel, by decide +kernel⟩
/-- marks made for all settings -/
def sp_made (m : Nat) (lo : Nat) : DSp := fun ds M Q _ => ∃ (p q : Addr) (n : Nat) (N : DHp), ds = [.ref p, .int n] ∧ Rs N M p q ∧ lo ≤ n ∧ n ≤ 4 ∧ ∀ e (f : List Int → Int) N' M', Les N N' → N e = none → N' e = some (.lst (((setS (List.replicate n (m : Int))).map f).map D.int)) → GoodF m n f → Rs N' M' p q → Q (.ref e) M'
theorem ok_twobits {f : Addr} {fd : FuncData} (Dd : Df K mg "_law_two_bits" s__law_two_bits f fd P__law_two_bits) (Z : Zs mg) (G__law_mixed : Cal P₀ w K mg base "_law_mixed" 2 sp_mixed) (G__law_settings : Cal P₀ w K mg base "_law_settings" 1 sp_lset) (G__law_bends : Cal P₀ w K mg base "_law_bends" 3 sp_bends) : Cal P₀ w K mg base "_law_two_bits" 4 (sp_made 4 3) := by
  refine Dd.cal sc__law_two_bits (fun ds M P PE h => ?_) (fun cdv A outer s H E ds M P PE hr tk h => ⟨_, (dss_cons (ds_par2 2 3 sc__law_two_bits.nd (da_cons (de_lc sc__law_two_bits.nd (own := [("part", 10)]) (di_rg1 Z.rng (de_var 1)) (blkOk_by (N := N__law_two_bits) (sc := defScope s__law_two_bits) (by decide +kernel)) (ct_name 10)
      (fun _ _ _ _ _ => (pg_name (i := 10) sc__law_two_bits.nd rfl (.inl rfl))) (fun _ _ _ _ _ => dts_nil) (fun _ _ _ _ _ => (de_call G__law_mixed (hr.mono (by decide)) tk0 (da_cons (de_var 0) (da_cons (de_lstRg1 Z.lst Z.rng de_int) da_nil))))) (da_cons (de_call G__law_mixed (hr.mono (by decide)) tk (da_cons (de_var 0) (da_cons (de_lstRg1 Z.lst Z.rng de_int) da_nil))) da_nil)))
    (dss_cons (ds_par2 4 5 sc__law_two_bits.nd (da_cons (de_call G__law_bends (hr.mono (by decide)) tk (da_cons (de_var 0) (da_cons (de_var 1) da_nil))) (da_cons (de_lst da_nil) da_nil)))
    (dss_cons (ds_for (passes_of rfl) (di_sq (de_call G__law_settings (hr.mono (by decide)) tk (da_cons de_int (da_cons (de_var 1) da_nil)))) (dg_name 6 sc__law_two_bits.nd) (dss_cons (ds_asg (de_tup (da_cons de_int (da_cons de_int (da_cons de_int da_nil)))) (dg_tup (n := 3) rfl (dgs_cons (dg_name 7 sc__law_two_bits.nd) (dgs_cons (dg_name 8 sc__law_two_bits.nd) (dgs_cons (dg_name 9 sc__law_two_bits.nd) dgs_nil)))))
    (dss_cons (ds_for (passes_of rfl) (di_en Z.enum (de_var 6)) (dg_tup (n := 2) rfl (dgs_cons (dg_name 10 sc__law_two_bits.nd) (dgs_cons (dg_name 11 sc__law_two_bits.nd) dgs_nil))) (dss_cons (ds_set 12 sc__law_two_bits.nd (de_ix (de_ix (de_var 2) (de_var 10)) (de_var 11)))
    (dss_one (ds_par3 7 8 9 sc__law_two_bits.nd (da_cons (de_op or_add (de_var 7) (de_var 12)) (da_cons (de_op or_add (de_var 8) (de_op or_fdv (de_var 12) de_int)) (da_cons (de_op or_add (de_op or_mul (de_var 9) de_int) (de_op or_fdv (de_var 12) de_int)) da_nil)))))))
    (dss_one (ds_expr (de_mt PySem.F.slot_list_append PySem.F.type_list_append mt_app (de_var 5) (da_cons (de_ix (de_var 3) (de_op or_add (de_op or_mul (de_op or_mod (de_fnT cr_int Z.int (da_cons (de_var 8) da_nil)) de_int) de_int) (de_op or_mod (de_fnT cr_int Z.int (da_cons (de_op or_add (de_var 7) (de_ix (de_var 4) (de_var 9))) da_nil)) de_int))) da_nil)))))))
    (dss_one (ds_ret (de_var 5)))))), ?_⟩)
  · obtain ⟨_, _, _, _, rfl, _⟩ := h
    rfl
  · obtain ⟨p, q, n, N, rfl, R, n3, n4, qq⟩ := h
    walk_at "w"
    refine ⟨_, rfl, ⟨by omega, by omega⟩, ?_⟩
    refine ⟨fun i acc M' => ∃ (N' : DHp) (as : List Addr) (rs : List (List Int)), Les N N' ∧ Rs N' M' p q ∧ acc = as.map D.ref ∧ LLs N' as (iL rs) ∧ rs.length = i ∧ ∀ (j : Nat), j < i → Prm 4 (rs.getD j []), ⟨_, .refl _, N, [], [], .refl _, R, rfl, .nil, rfl, fun j h => absurd h (Nat.not_lt_zero _)⟩, fun _ _ _ _ _ => trivial, ?_, ?_⟩
    · rintro i x acc M' hx ⟨N', as, rs, L, R', rfl, hL, hl, hj⟩
      have hi := (List.getElem?_eq_some_iff.mp hx).1
      rw [rgD_len] at hi
      walk_at "w"
      refine ⟨4, rfl, ⟨by decide, by decide, by decide, by decide, by decide⟩, fun u hu => ?_⟩
      have R5 := R'.new (o := .lst (rgD 0 4)) hu
      have L5 := R'.newl (o := .lst (rgD 0 4)) hu
      have fu : upM N' u (.lst (rgD 0 4)) u = some (.lst (rgD 0 4)) := upM_same
      refine ⟨p, q, .ref u, rgD 0 4, _, rfl, R5, .ref fu, fun d hd => ?_, by decide, fun e ys N6 M6 pm L7 ne fe R6 => ?_⟩
      · obtain ⟨k, hk⟩ := List.getElem?_of_mem hd
        obtain ⟨_, rfl⟩ := rg_at hk
        exact pu_int _
      obtain ⟨l, rfl, pl⟩ := prm_rg (m := 4) pm
      have hll := hL.len
      refine ⟨size_ok (by simp at hll ⊢; omega), _, .refl _, N6, as ++ [e], rs ++ [l], (L.trans L5).trans L7, R6, by simp, ?_, by simp; omega, fun j hj2 => ?_⟩
      · unfold iL
        rw [List.map_append]
        exact (hL.les (L5.trans L7)).app (.cons fe .nil)
      · by_cases e2 : j < rs.length
        · rw [List.getD_eq_getElem?_getD, List.getElem?_append_left e2, ← List.getD_eq_getElem?_getD]
          exact hj j (by omega)
        · have e3 : j = rs.length := by omega
          subst e3
          rw [List.getD_eq_getElem?_getD, List.getElem?_append_right (Nat.le_refl _), Nat.sub_self]
          exact pl
    · rintro acc M1 ⟨N1, as, rs, L1, R1, rfl, hL, hl, hj⟩ t ht
      rw [rgD_len] at hl hj
      have hl : rs.length = n := by omega
      have R2 := R1.new (o := .lst (as.map D.ref)) ht
      have L2 := R1.newl (o := .lst (as.map D.ref)) ht
      have hT : LL (upM N1 t (.lst (as.map D.ref))) t (iL rs) := ⟨as, upM_same, hL.les L2⟩
      replace L2 := L1.trans L2
      generalize upM N1 t (.lst (as.map D.ref)) = N2 at R2 L2 hT
      generalize upM M1 t (.lst (as.map D.ref)) = M2 at R2 ⊢
      clear hL R1 L1
      walk_at "w"
      refine ⟨4, rfl, ⟨by decide, by decide, by decide, by decide, by decide⟩, fun u hu => ?_⟩
      have R5 := R2.new (o := .lst (rgD 0 4)) hu
      have L5 := R2.newl (o := .lst (rgD 0 4)) hu
      have fu : upM N2 u (.lst (rgD 0 4)) u = some (.lst (rgD 0 4)) := upM_same
      refine ⟨p, q, .ref u, rgD 0 4, _, rfl, R5, .ref fu, fun d hd => ?_, by decide, fun e ys N6 M6 pm L7 ne fe R6 => ?_⟩
      · obtain ⟨k, hk⟩ := List.getElem?_of_mem hd
        obtain ⟨_, rfl⟩ := rg_at hk
        exact pu_int _
      obtain ⟨nm, rfl, pn⟩ := prm_rg (m := 4) pm
      replace hT := (hT.les L5).les L7
      replace L2 := (L2.trans L5).trans L7
      clear R5 fu L5 L7 ne pm
      walk_at "w"
      refine ⟨p, q, n, N6, rfl, R6, n3, n4, fun b bs N7 M7 L7 nb fb lb R7 => ?_⟩
      walk_at "w"
      refine ⟨Nat.zero_le _, fun v hv => ?_⟩
      have R10 := R7.new (o := .lst []) hv
      have L10 := R7.newl (o := .lst []) hv
      have fv : upM N7 v (.lst []) v = some (.lst []) := upM_same
      have v7 := (R7.nep hv).2.2
      have nv := (L2.trans L7).free v7
      have z1 := hT.les L7
      have z2 := L7 _ _ fe
      have z3 := L2.trans L7
      generalize upM N7 v (.lst []) = N10 at R10 fv L10
      generalize upM M7 v (.lst []) = M10 at R10 ⊢
      walk_at "w"
      refine ⟨4, n, rfl, by decide, n4, fun g as2 M12 L12 ng na hg hB => ?_⟩
      obtain ⟨Ny, y1, y2, y3, R12⟩ := R10.newLL2 L12 ng na hg hB fv L10 v7
      obtain ⟨asb, yb, yB⟩ := y3
      have y4 := z1.les y1
      have y5 := y1 _ _ z2
      have y6 := y1 _ _ fb
      have y7 := z3.trans y1
      clear z1 z2 z3 fv hg hB ng na L12 R10 hT R7 R6 fe fb L7 L10 hv v7
      have hsl : ∀ (j : Nat) (r : List Int), (setS (List.replicate n ((4 : Nat) : Int)))[j]? = some r → IsS (List.replicate n ((4 : Nat) : Int)) r := fun j r h => mem_setS.mp (List.mem_of_getElem? h)
      have big := pow_le4 n4 (show 4 ≤ 8 by decide)
      have hll := len_rep 4 n
      refine ⟨_, .ref (R12.l _ _ (les_new y2 _ _ yb)), fun i s M' => Rs (upM Ny v (.lst ((((setS (List.replicate n ((4 : Nat) : Int))).map (tbF rs bs nm)).take i).map D.int))) M' p q ∧ ∃ x6 x7 x8 x9 x10 x11 x12, s = [some (.ref p), some (.int n), some (.ref t), some (.ref e), some (.ref b), some (.ref v), x6, x7, x8, x9, x10, x11, x12], .of ⟨R12, _, _, _, _, _, _, _, rfl⟩, fun i s M' _ ⟨R', _⟩ => .ref (R'.l _ _ (les_new y2 _ _ yb)), ?_, ?_⟩
      · rintro i x s M' hx ⟨R', x6, x7, x8, x9, x10, x11, x12, rfl⟩
        obtain ⟨c, r, rfl, hr, yc⟩ := sS_at yB hx
        have hi := (List.getElem?_eq_some_iff.mp hr).1
        have hS := hsl _ _ hr
        obtain ⟨lr, cr⟩ := isS_rep.mp hS
        generalize hW : ((((setS (List.replicate n ((4 : Nat) : Int))).map (tbF rs bs nm)).take i).map D.int) = W at R'
        have yc' := R'.l _ _ (les_new y2 _ _ yc)
        have yt := (y4.les (les_new y2)).les R'.l
        have ye := R'.l _ _ (les_new y2 _ _ y5)
        have yb' := R'.l _ _ (les_new y2 _ _ y6)
        have fv' := R'.l _ _ upM_same
        walk_at "w"
        refine ⟨(by show 3 ≤ sizeLine; decide), rfl, ?_⟩
        walk_at "w"
        refine ⟨_, .ref yc', fun k s M2 => Rs (upM Ny v (.lst W)) M2 p q ∧ ∃ x10 x11 x12, s = [some (.ref p), some (.int n), some (.ref t), some (.ref e), some (.ref b), some (.ref v), some (.ref c), some (.int ((wts rs r).take k).sum), some (.int (hfs ((wts rs r).take k)).sum), some (.int (bin (hfs ((wts rs r).take k)))), x10, x11, x12], .of ⟨R', _, _, _, rfl⟩, fun k s M2 _ ⟨R2, _⟩ => .ref (R2.l _ _ (les_new y2 _ _ yc)), ?_, ?_⟩
        · rintro k x s M2 hx ⟨R2, x10, x11, x12, rfl⟩
          obtain ⟨d, h1, rfl⟩ := en_at hx
          obtain ⟨cc, h2, rfl⟩ := int_at h1
          have hk := (List.getElem?_eq_some_iff.mp h2).1
          have ecc : r.getD k 0 = cc := by rw [List.getD_eq_getElem?_getD, h2]; rfl
          have ck := cr k (by omega)
          rw [ecc] at ck
          have hrk : rs[k]? = some (rs[k]'(by omega)) := List.getElem?_eq_getElem _
          have prk := hj k (by omega)
          have erk : rs.getD k [] = rs[k]'(by omega) := by rw [List.getD_eq_getElem?_getD, hrk]; rfl
          obtain ⟨ak, dk, t1, t2, t3⟩ := ((y4.les (les_new y2)).les R2.l).at (i := k) (r := (rs.getD k []).map D.int) (by rw [List.getElem?_map, hrk, erk]; rfl)
          obtain ⟨wv, w1, w2⟩ := prm_at prk ck.1 ck.2
          have wr := prk.rng cc.toNat (by omega)
          rw [← w2] at wr
          have ht := wts_take (R := rs) hk
          rw [ecc, ← w2] at ht
          refine ⟨rfl, ?_⟩
          walk_at "w"
          refine .inl ⟨_, _, _, .ref t1, rfl, t2, ?_⟩
          walk_at "w"
          refine .inl ⟨_, _, _, .ref t3, rfl, w1, ?_⟩
          walk_at "w"
          refine ⟨⟨by decide, by decide⟩, ?_⟩
          walk_at "w"
          refine ⟨.inr ⟨by decide, by decide⟩, ?_⟩
          walk_at "w"
          refine ⟨⟨by decide, by decide⟩, ?_⟩
          refine ⟨_, _, Lss.refl _, Les.refl _, R2, some (.int (k : Nat)), some (.int cc), some (.int wv), ?_⟩
          rw [ht]
          simp only [hfs, List.map_append, List.map_cons, List.map_nil, sum_one, bin_app]
          rfl
        · rintro s M2 ⟨R2, x10, x11, x12, rfl⟩
          have full : (wts rs r).take (enD (r.map D.int)).length = wts rs r := List.take_of_length_le (by simp [enD, wts_len])
          rw [full]
          have R2v := R2.l _ _ upM_same
          have bb := bin_bound (hfs (wts rs r)) fun h hh => by
            obtain ⟨y, hy, rfl⟩ := List.mem_map.mp hh
            obtain ⟨k, hk, rfl⟩ := List.getElem_of_mem hy
            rw [wts_len] at hk
            have := wts_rng (n := n) (m := 4) (fun j h => hj j (by omega)) hS k (by omega)
            rw [List.getD_eq_getElem?_getD, List.getElem?_eq_getElem (by rw [wts_len]; exact hk)] at this
            have this : 0 ≤ (wts rs r)[k]'_ ∧ (wts rs r)[k]'_ < (4 : Nat) := this
            omega
          rw [List.length_map, wts_len, lr] at bb
          have lb2 : (bs.length : Int) = 2 ^ n := by rw [lb]; simp
          obtain ⟨ka, hka⟩ : ∃ ka : Nat, bin (hfs (wts rs r)) = ka := ⟨(bin (hfs (wts rs r))).toNat, by omega⟩
          have fe : tbF rs bs nm r = nm.getD ((hfs (wts rs r)).sum % 2 * 2 + ((wts rs r).sum + bs.getD ka 0) % 2).toNat 0 := by
            unfold tbF
            rw [hka, Int.toNat_natCast]
          generalize (wts rs r).sum = lo at fe ⊢
          generalize (hfs (wts rs r)).sum = hi2 at fe ⊢
          rw [hka] at bb ⊢
          have hkb : bs[ka]? = some (bs.getD ka 0) := by
            rw [List.getD_eq_getElem?_getD, List.getElem?_eq_getElem (by omega)]
            rfl
          obtain ⟨kk, e1, e2⟩ : ∃ kk : Nat, hi2 % 2 * 2 + (lo + bs.getD ka 0) % 2 = kk ∧ kk < 4 := ⟨(hi2 % 2 * 2 + (lo + bs.getD ka 0) % 2).toNat, by omega, by omega⟩
          rw [e1, Int.toNat_natCast] at fe
          walk_at "w"
          refine ⟨⟨v, _, rfl, .inl R2v⟩, ?_⟩
          walk_at "w"
          refine ⟨by decide, ?_⟩
          walk_at "w"
          refine ⟨.inr ⟨by decide, by decide⟩, ?_⟩
          walk_at "w"
          refine .inl ⟨_, _, _, .ref (R2.l _ _ (les_new y2 _ _ y6)), rfl, ints_at hkb, ?_⟩
          walk_at "w"
          refine ⟨by decide, ?_⟩
          refine .inl ⟨_, _, _, .ref (R2.l _ _ (les_new y2 _ _ y5)), rfl, (by rw [e1]; exact ints_at (List.getElem?_eq_getElem (by rw [pn.len]; exact e2))), ?_⟩
          have hWl : W.length ≤ 4096 := by rw [← hW]; simp; omega
          refine ⟨v, _, _, rfl, rfl, R2v, size_ok (by omega), ?_⟩
          have R3 := R2.put (e := v) (o := .lst (W ++ [.int (nm[kk]'(by rw [pn.len]; exact e2))])) upM_same
          rw [upM_two] at R3
          refine .of ⟨?_, _, _, _, _, _, _, _, rfl⟩
          have en : nm[kk]'(by rw [pn.len]; exact e2) = tbF rs bs nm r := by
            rw [fe, List.getD_eq_getElem?_getD, List.getElem?_eq_getElem (by rw [pn.len]; exact e2)]
            rfl
          rw [en, ← hW] at R3 ⊢
          rw [List.take_add_one, List.map_append, List.getElem?_map, hr]
          exact R3
      · rintro s M' ⟨R', x6, x7, x8, x9, x10, x11, x12, rfl⟩
        walk_at "w"
        rw [List.take_of_length_le (by have := yB.len; simp [iL] at this ⊢; omega)] at R'
        exact Lk.of (qq v (tbF rs bs nm) _ _ (y7.trans (les_new y2)) nv upM_same (tb_good (fun i hi => hj i (by omega)) pn) R')
end
end K83
set_option linter.all false
namespace K83
open PySem PySem.Spec PyProof.Rows L2 DL
local macro_rules | `(tactic| walk_at "w") => `(tactic| conv => whnf)
/-- a product of turns and flips -/
def tmI (m a b : Int) : Int := (a / 2 + (if a % 2 = 0 then b / 2 else 0 - b / 2)) % (m / 2) * 2 + (a + b) % 2
def tmChk (m : Nat) : Bool := (List.range m).all fun a => (List.range m).all fun b => decide (0 ≤ tmI m a b) && decide (tmI m a b < m) && (List.range m).all fun c => (b == c) || (decide (tmI m a b ≠ tmI m a c) && decide (tmI m b a ≠ tmI m c a))
theorem tm6 : tmChk 6 = true := by decide +kernel
theorem tm8 : tmChk 8 = true := by decide +kernel
structure Tm (m : Nat) : Prop where
  rng : ∀ a b : Int, 0 ≤ a → a < m → 0 ≤ b → b < m → 0 ≤ tmI m a b ∧ tmI m a b < m
  inr : ∀ a b c : Int, 0 ≤ a → a < m → 0 ≤ b → b < m → 0 ≤ c → c < m → tmI m a b = tmI m a c → b = c
  inl : ∀ a b c : Int, 0 ≤ a → a < m → 0 ≤ b → b < m → 0 ≤ c → c < m → tmI m b a = tmI m c a → b = c
theorem tm_of {m : Nat} (h : tmChk m = true) : Tm m := by
  have key : ∀ a b : Int, 0 ≤ a → a < m → 0 ≤ b → b < m → (0 ≤ tmI m a b ∧ tmI m a b < m) ∧ ∀ c : Int, 0 ≤ c → c < m → b = c ∨ tmI m a b ≠ tmI m a c ∧ tmI m b a ≠ tmI m c a := fun a b a0 a1 b0 b1 => by
    obtain ⟨a, rfl⟩ : ∃ k : Nat, a = k := ⟨a.toNat, by omega⟩
    obtain ⟨b, rfl⟩ : ∃ k : Nat, b = k := ⟨b.toNat, by omega⟩
    unfold tmChk at h
    have h := List.all_eq_true.mp (List.all_eq_true.mp h a (List.mem_range.mpr (by omega))) b (List.mem_range.mpr (by omega))
    rw [Bool.and_eq_true, Bool.and_eq_true] at h
    refine ⟨⟨of_decide_eq_true h.1.1, of_decide_eq_true h.1.2⟩, fun c c0 c1 => ?_⟩
    obtain ⟨c, rfl⟩ : ∃ k : Nat, c = k := ⟨c.toNat, by omega⟩
    have h := List.all_eq_true.mp h.2 c (List.mem_range.mpr (by omega))
    rw [Bool.or_eq_true, Bool.and_eq_true] at h
    rcases h with h | ⟨h1, h2⟩
    · exact .inl (by rw [beq_iff_eq.mp h])
    · exact .inr ⟨of_decide_eq_true h1, of_decide_eq_true h2⟩
  refine ⟨fun a b a0 a1 b0 b1 => (key a b a0 a1 b0 b1).1, fun a b c a0 a1 b0 b1 c0 c1 e => ?_, fun a b c a0 a1 b0 b1 c0 c1 e => ?_⟩
  · exact ((key a b a0 a1 b0 b1).2 c c0 c1).elim id fun h => (h.1 e).elim
  · exact ((key a b a0 a1 b0 b1).2 c c0 c1).elim id fun h => (h.2 e).elim
theorem Prm.inj' {m : Nat} {l : List Int} (h : Prm m l) {a b : Int} (a0 : 0 ≤ a) (a1 : a < m) (b0 : 0 ≤ b) (b1 : b < m) (e : l.getD a.toNat 0 = l.getD b.toNat 0) : a = b := by
  have := h.inj a.toNat b.toNat (by omega) (by omega) e
  omega
theorem Prm.rng' {m : Nat} {l : List Int} (h : Prm m l) {a : Int} (a0 : 0 ≤ a) (a1 : a < m) : 0 ≤ l.getD a.toNat 0 ∧ l.getD a.toNat 0 < m := h.rng a.toNat (by omega)
def wAt (R : List (List Int)) (r : List Int) (k : Int) : Int := (wts R r).getD k.toNat 0
def prF (m : Nat) (R : List (List Int)) (nm inn od : List Int) : List Int → Int := fun r => nm.getD (tmI m (wAt R r (od.getD 0 0)) (inn.getD (tmI m (wAt R r (od.getD 1 0)) (wAt R r (od.getD 2 0))).toNat 0)).toNat 0
theorem wAt_set {R : List (List Int)} {r : List Int} {i : Nat} {c : Int} (h : i < r.length) (k : Int) : wAt R (r.set i c) k = if k.toNat = i then (R.getD i []).getD c.toNat 0 else wAt R r k := by
  unfold wAt
  rw [wts_set h]
  by_cases e : k.toNat = i
  · rw [if_pos e, e, getD_set_self (by rw [wts_len]; exact h)]
  · rw [if_neg e, getD_set_ne (Ne.symm e)]
theorem pr_good {m : Nat} {R : List (List Int)} {nm inn od : List Int} (t : Tm m) (hR : ∀ i, i < 3 → Prm m (R.getD i [])) (hn : Prm m nm) (hi : Prm m inn) (ho : Prm 3 od) : GoodF m 3 (prF m R nm inn od) := by
  intro r hr
  obtain ⟨l, h⟩ := isS_rep.mp hr
  have wr : ∀ k : Int, 0 ≤ k → k < 3 → 0 ≤ wAt R r k ∧ wAt R r k < m := fun k k0 k1 => by
    have := wts_rng hR hr k.toNat (by omega)
    exact this
  have o0 := ho.rng 0 (by decide)
  have o1 := ho.rng 1 (by decide)
  have o2 := ho.rng 2 (by decide)
  have ne : ∀ i j : Nat, i < 3 → j < 3 → i ≠ j → (od.getD i 0).toNat ≠ (od.getD j 0).toNat := fun i j hi hj n e => n (ho.inj i j hi hj (by
    have := ho.rng i hi
    have := ho.rng j hj
    omega))
  have x := wr _ o0.1 o0.2
  have y := wr _ o1.1 o1.2
  have z := wr _ o2.1 o2.2
  have a := t.rng _ _ y.1 y.2 z.1 z.2
  have b := hi.rng' a.1 a.2
  have c := t.rng _ _ x.1 x.2 b.1 b.2
  refine ⟨hn.rng' c.1 c.2, fun i hi3 d d0 d1 nd e => nd ?_⟩
  have dr := (hR i hi3).rng' d0 d1
  obtain ⟨k, hk, ek⟩ := ho.sur (i : Int) (by omega) (by omega)
  have eki : (od.getD k 0).toNat = i := by omega
  have wi : wAt R r (od.getD k 0) = (R.getD i []).getD (r.getD i 0).toNat 0 := by
    unfold wAt
    rw [eki, wts_at (by omega)]
  have ri := h i hi3
  have done : (R.getD i []).getD d.toNat 0 = wAt R r (od.getD k 0) → d = r.getD i 0 := fun q => (hR i hi3).inj' d0 d1 ri.1 ri.2 (by rw [q, wi])
  unfold prF at e
  rw [wAt_set (by omega), wAt_set (by omega), wAt_set (by omega)] at e
  have hk : k = 0 ∨ k = 1 ∨ k = 2 := by omega
  rcases hk with rfl | rfl | rfl
  · have n1 := ne 1 0 (by decide) (by decide) (by decide)
    have n2 := ne 2 0 (by decide) (by decide) (by decide)
    rw [eki] at n1 n2
    rw [if_pos eki, if_neg n1, if_neg n2] at e
    have c' := t.rng _ _ dr.1 dr.2 b.1 b.2
    have e := hn.inj' c'.1 c'.2 c.1 c.2 e
    exact done (t.inl _ _ _ b.1 b.2 dr.1 dr.2 x.1 x.2 e)
  · have n1 := ne 0 1 (by decide) (by decide) (by decide)
    have n2 := ne 2 1 (by decide) (by decide) (by decide)
    rw [eki] at n1 n2
    rw [if_pos eki, if_neg n1, if_neg n2] at e
    have a' := t.rng _ _ dr.1 dr.2 z.1 z.2
    have b' := hi.rng' a'.1 a'.2
    have c' := t.rng _ _ x.1 x.2 b'.1 b'.2
    have e := hn.inj' c'.1 c'.2 c.1 c.2 e
    have e := t.inr _ _ _ x.1 x.2 b'.1 b'.2 b.1 b.2 e
    have e := hi.inj' a'.1 a'.2 a.1 a.2 e
    exact done (t.inl _ _ _ z.1 z.2 dr.1 dr.2 y.1 y.2 e)
  · have n1 := ne 0 2 (by decide) (by decide) (by decide)
    have n2 := ne 1 2 (by decide) (by decide) (by decide)
    rw [eki] at n1 n2
    rw [if_pos eki, if_neg n1, if_neg n2] at e
    have a' := t.rng _ _ y.1 y.2 dr.1 dr.2
    have b' := hi.rng' a'.1 a'.2
    have c' := t.rng _ _ x.1 x.2 b'.1 b'.2
    have e := hn.inj' c'.1 c'.2 c.1 c.2 e
    have e := t.inr _ _ _ x.1 x.2 b'.1 b'.2 b.1 b.2 e
    have e := hi.inj' a'.1 a'.2 a.1 a.2 e
    exact done (t.inr _ _ _ y.1 y.2 dr.1 dr.2 z.1 z.2 e)
def smF (m : Nat) (R : List (List Int)) (nm : List Int) : List Int → Int := fun r => nm.getD ((wts R r).sum % m).toNat 0
theorem sm_good {m n : Nat} {R : List (List Int)} {nm : List Int} (m1 : 1 ≤ m) (hR : ∀ i, i < n → Prm m (R.getD i [])) (hn : Prm m nm) : GoodF m n (smF m R nm) := by
  intro r hr
  obtain ⟨l, h⟩ := isS_rep.mp hr
  have md : ∀ x : Int, 0 ≤ x % (m : Int) ∧ x % (m : Int) < m := fun x => ⟨Int.emod_nonneg _ (by omega), Int.emod_lt_of_pos _ (by omega)⟩
  refine ⟨hn.rng' (md _).1 (md _).2, fun i hi c c0 c1 nc e => nc ?_⟩
  unfold smF at e
  have wr := wts_rng hR hr i hi
  have wc := (hR i hi).rng' c0 c1
  have ri := h i hi
  rw [wts_set (by omega), sum_upd (by rw [wts_len]; omega)] at e
  have e := hn.inj' (md _).1 (md _).2 (md _).1 (md _).2 e
  have wi : (wts R r).getD i 0 = (R.getD i []).getD (r.getD i 0).toNat 0 := wts_at (by omega)
  refine (hR i hi).inj' c0 c1 ri.1 ri.2 ?_
  rw [← wi]
  generalize (R.getD i []).getD c.toNat 0 = x at e wc ⊢
  generalize (wts R r).getD i 0 = y at e wr ⊢
  have d : (m : Int) ∣ (x - y) := by
    have := Int.emod_emod_of_dvd
    have e2 : ((wts R r).sum + (x - y) - (wts R r).sum) % (m : Int) = 0 := Int.emod_eq_emod_iff_emod_sub_eq_zero.mp e
    rw [show (wts R r).sum + (x - y) - (wts R r).sum = x - y from by omega] at e2
    exact Int.dvd_of_emod_eq_zero e2
  obtain ⟨k, hk⟩ := d
  have : k = 0 := by
    rcases Int.lt_trichotomy k 0 with h | h | h
    · have : (m : Int) * k ≤ (m : Int) * (-1) := Int.mul_le_mul_of_nonneg_left (by omega) (by omega)
      omega
    · exact h
    · have : (m : Int) * 1 ≤ (m : Int) * k := Int.mul_le_mul_of_nonneg_left (by omega) (by omega)
      omega
  subst this
  omega
section
variable {P₀ : Program} {w : World} {K : PySem.W.Frag} {mg : Str → Option Value} {base : Heap}
abbrev s__law_times : Stmt := top 52
abbrev N__law_times : List Str := ["many", "one", "other", "turn"]
abbrev P__law_times : List Str := ["many", "one", "other"]
theorem sc__law_times : FnScope N__law_times P__law_times (defScope s__law_times) := ⟨rfl, rfl, rfl, by decide +kernel, rfl, by decide +kernel, by decide +kernel⟩
def sp_times : DSp := fun ds M Q _ => ∃ m a b : Int, ds = [.int m, .int a, .int b] ∧ 2 ≤ m ∧ m ≤ 8 ∧ Q (.int (tmI m a b)) M
theorem ok_times {f : Addr} {fd : FuncData} (Dd : Df K mg "_law_times" s__law_times f fd P__law_times) (Z : Zs mg) : Cal P₀ w K mg base "_law_times" 1 sp_times := by
  refine Dd.cal sc__law_times (fun ds M P PE h => ?_) (fun cdv A outer s H E ds M P PE hr tk h => ⟨_, (dss_cons (ds_set 3 sc__law_times.nd (de_ite (dt_cmp (or_eq hr.r.units) (de_op or_mod (de_var 1) de_int) de_int) (de_op or_fdv (de_var 2) de_int) (de_op or_sub de_int (de_op or_fdv (de_var 2) de_int))))
    (dss_one (ds_ret (de_op or_add (de_op or_mul (de_op or_mod (de_fnT cr_int Z.int (da_cons (de_op or_add (de_op or_fdv (de_var 1) de_int) (de_var 3)) da_nil)) (de_op or_fdv (de_var 0) de_int)) de_int) (de_op or_mod (de_fnT cr_int Z.int (da_cons (de_op or_add (de_var 1) (de_var 2)) da_nil)) de_int))))), ?_⟩)
  · obtain ⟨_, _, _, rfl, _⟩ := h
    rfl
  · obtain ⟨m, a, b, rfl, m2, m8, q⟩ := h
    have fin : ∀ t : Int, t = (if a % 2 = 0 then b / 2 else 0 - b / 2) → sRet (dOp addD (dOp mulD (dOp modD (dFn DL.intD (aCons (dOp addD (dOp fdvD (dVar 1) (dC (D.int 2))) (dVar 3)) aNil)) (dOp fdvD (dVar 0) (dC (D.int 2)))) (dC (D.int 2))) (dOp modD (dFn DL.intD (aCons (dOp addD (dVar 1) (dVar 2)) aNil)) (dC (D.int 2))))
        { nx := fun x M' => Lk P D.non M', rt := Lk P } [some (.int m), some (.int a), some (.int b), some (.int t)] M := fun t ht => by
      walk_at "w"
      refine ⟨⟨by decide, by decide⟩, ?_⟩
      walk_at "w"
      refine ⟨⟨by decide, by decide⟩, ?_⟩
      walk_at "w"
      refine ⟨by omega, ?_⟩
      walk_at "w"
      refine ⟨.inr ⟨by decide, by decide⟩, ?_⟩
      walk_at "w"
      refine ⟨by decide, ?_⟩
      exact Lk.eq q (by rw [ht]; rfl)
    walk_at "w"
    refine ⟨by decide, ?_⟩
    walk_at "w"
    refine ifB_mk (fun h => ?_) (fun h => ?_)
    · have h := of_decide_eq_true h
      walk_at "w"
      refine ⟨⟨by decide, by decide⟩, ?_⟩
      exact fin _ (by rw [if_pos h])
    · have h := of_decide_eq_false h
      walk_at "w"
      refine ⟨⟨by decide, by decide⟩, ?_⟩
      exact fin _ (by rw [if_neg h])
end
end K83
set_option linter.all false
namespace K83
open PySem PySem.Spec PyProof.Rows L2 DL
local macro_rules | `(tactic| walk_at "w") => `(tactic| conv => whnf)
theorem rg_pu {n : Int} : ∀ d ∈ rgD 0 n, Pu d := fun d hd => by
  obtain ⟨k, hk⟩ := List.getElem?_of_mem hd
  have hl := (List.getElem?_eq_some_iff.mp hk).1
  rw [rgD_len] at hl
  rw [rgD_get hl] at hk
  cases hk
  exact pu_int _
theorem rg_len3 (m : Nat) : (rgD 0 (m : Int)).length = m := by rw [rgD_len]; omega
/-- one more row -/
theorem rows_more {N N' : DHp} {as : List Addr} {rs : List (List Int)} {e : Addr} {l : List Int} {m i : Nat} (hL : LLs N as (iL rs)) (L : Les N N') (fe : N' e = some (.lst (l.map D.int))) (pl : Prm m l) (hl : rs.length = i) (hj : ∀ (j : Nat), j < i → Prm m (rs.getD j [])) :
    LLs N' (as ++ [e]) (iL (rs ++ [l])) ∧ (rs ++ [l]).length = i + 1 ∧ ∀ j, j < i + 1 → Prm m ((rs ++ [l]).getD j []) := by
  refine ⟨?_, by simp [hl], fun j hj2 => ?_⟩
  · unfold iL
    rw [List.map_append]
    exact (hL.les L).app (.cons fe .nil)
  · by_cases e2 : j < rs.length
    · rw [List.getD_eq_getElem?_getD, List.getElem?_append_left e2, ← List.getD_eq_getElem?_getD]
      exact hj j (by omega)
    · have e3 : j = rs.length := by omega
      subst e3
      rw [List.getD_eq_getElem?_getD, List.getElem?_append_right (Nat.le_refl _), Nat.sub_self]
      exact pl
section
variable {P₀ : Program} {w : World} {K : PySem.W.Frag} {mg : Str → Option Value} {base : Heap}
abbrev s__law_products : Stmt := top 53
abbrev N__law_products : List Str := ["deal", "many", "rows", "names", "inner", "order", "marks", "setting", "x", "y", "z", "part"]
abbrev P__law_products : List Str := ["deal", "many"]
theorem sc__law_products : FnScope N__law_products P__law_products (defScope s__law_products) := ⟨rfl, rfl, rfl, by decide +kernel, rfl, by decide +kernel, by decide +kernel⟩
def sp_prods : DSp := fun ds M Q _ => ∃ (p q : Addr) (m : Nat) (N : DHp), ds = [.ref p, .int m] ∧ Rs N M p q ∧ Tm m ∧ 2 ≤ m ∧ m ≤ 8 ∧ ∀ e (f : List Int → Int) N' M', Les N N' → N e = none → N' e = some (.lst (((setS (List.replicate 3 (m : Int))).map f).map D.int)) → GoodF m 3 f → Rs N' M' p q → Q (.ref e) M'
theorem ok_prods {f : Addr} {fd : FuncData} (Dd : Df K mg "_law_products" s__law_products f fd P__law_products) (Z : Zs mg) (G__law_draw : Cal P₀ w K mg base "_law_draw" 1 sp_draw) (G__law_mixed : Cal P₀ w K mg base "_law_mixed" 2 sp_mixed) (G__law_settings : Cal P₀ w K mg base "_law_settings" 1 sp_lset) (G__law_times : Cal P₀ w K mg base "_law_times" 1 sp_times) : Cal P₀ w K mg base "_law_products" 4 sp_prods := by
  refine Dd.cal sc__law_products (fun ds M P PE h => ?_) (fun cdv A outer s H E ds M P PE hr tk h => ⟨_, (dss_cons (ds_asg (de_tup (da_cons (de_lc sc__law_products.nd (own := [("part", 11)]) (di_rg1 Z.rng de_int) (blkOk_by (N := N__law_products) (sc := defScope s__law_products) (by decide +kernel)) (ct_name 11)
      (fun _ _ _ _ _ => (pg_name (i := 11) sc__law_products.nd rfl (.inl rfl))) (fun _ _ _ _ _ => dts_nil) (fun _ _ _ _ _ => (de_call G__law_mixed (hr.mono (by decide)) tk0 (da_cons (de_var 0) (da_cons (de_lstRg1 Z.lst Z.rng (de_var 1)) da_nil))))) (da_cons (de_call G__law_mixed (hr.mono (by decide)) tk (da_cons (de_var 0) (da_cons (de_lstRg1 Z.lst Z.rng (de_var 1)) da_nil))) da_nil))) (dg_tup (n := 2) rfl (dgs_cons (dg_name 2 sc__law_products.nd) (dgs_cons (dg_name 3 sc__law_products.nd) dgs_nil))))
    (dss_cons (ds_set 4 sc__law_products.nd (de_ite (dt_cmp or_gt (de_call G__law_draw (hr.mono (by decide)) tk (da_cons (de_var 0) (da_cons de_int da_nil))) de_int) (de_lstRg1 Z.lst Z.rng (de_var 1)) (de_call G__law_mixed (hr.mono (by decide)) tk (da_cons (de_var 0) (da_cons (de_lstRg1 Z.lst Z.rng (de_var 1)) da_nil)))))
    (dss_cons (ds_par2 5 6 sc__law_products.nd (da_cons (de_call G__law_mixed (hr.mono (by decide)) tk (da_cons (de_var 0) (da_cons (de_lst (da_cons de_int (da_cons de_int (da_cons de_int da_nil)))) da_nil))) (da_cons (de_lst da_nil) da_nil)))
    (dss_cons (ds_for (passes_of rfl) (di_sq (de_call G__law_settings (hr.mono (by decide)) tk (da_cons (de_var 1) (da_cons de_int da_nil)))) (dg_name 7 sc__law_products.nd) (dss_cons (ds_asg (de_lc sc__law_products.nd (own := [("part", 11)]) (di_sq (de_var 5)) (blkOk_by (N := N__law_products) (sc := defScope s__law_products) (by decide +kernel)) (ct_name 11)
      (fun _ _ _ _ _ => (pg_name (i := 11) sc__law_products.nd rfl (.inl rfl))) (fun _ _ _ _ _ => dts_nil) (fun _ _ _ _ _ => (de_ix (de_ix (de_var 2) (de_var 11)) (de_ix (de_var 7) (de_var 11))))) (dg_tup (n := 3) rfl (dgs_cons (dg_name 8 sc__law_products.nd) (dgs_cons (dg_name 9 sc__law_products.nd) (dgs_cons (dg_name 10 sc__law_products.nd) dgs_nil)))))
    (dss_one (ds_expr (de_mt PySem.F.slot_list_append PySem.F.type_list_append mt_app (de_var 6) (da_cons (de_ix (de_var 3) (de_call G__law_times (hr.mono (by decide)) tk (da_cons (de_var 1) (da_cons (de_var 8) (da_cons (de_ix (de_var 4) (de_call G__law_times (hr.mono (by decide)) tk (da_cons (de_var 1) (da_cons (de_var 9) (da_cons (de_var 10) da_nil))))) da_nil))))) da_nil))))))
    (dss_one (ds_ret (de_var 6))))))), ?_⟩)
  · obtain ⟨_, _, _, _, rfl, _⟩ := h
    rfl
  · obtain ⟨p, q, m, N, rfl, R, tm, m2, m8, qq⟩ := h
    walk_at "w"
    refine ⟨_, rfl, ⟨by omega, by omega⟩, ?_⟩
    refine ⟨fun i acc M' => ∃ (N' : DHp) (as : List Addr) (rs : List (List Int)), Les N N' ∧ Rs N' M' p q ∧ acc = as.map D.ref ∧ LLs N' as (iL rs) ∧ rs.length = i ∧ ∀ (j : Nat), j < i → Prm m (rs.getD j []), ⟨_, .refl _, N, [], [], .refl _, R, rfl, .nil, rfl, fun j h => absurd h (Nat.not_lt_zero _)⟩, fun _ _ _ _ _ => trivial, ?_, ?_⟩
    · rintro i x acc M' hx ⟨N', as, rs, L, R', rfl, hL, hl, hj⟩
      have hi : i < 3 := by
        have := (List.getElem?_eq_some_iff.mp hx).1
        rw [rgD_len] at this
        exact this
      walk_at "w"
      refine ⟨m, rfl, ⟨by omega, by omega, by omega, by omega, by omega⟩, fun u hu => ?_⟩
      have R5 := R'.new (o := .lst (rgD 0 (m : Int))) hu
      have L5 := R'.newl (o := .lst (rgD 0 (m : Int))) hu
      refine ⟨p, q, .ref u, rgD 0 (m : Int), _, rfl, R5, .ref upM_same, rg_pu, by rw [rg_len3]; omega, fun e ys N6 M6 pm L7 ne fe R6 => ?_⟩
      obtain ⟨l, rfl, pl⟩ := prm_rg pm
      have hll := hL.len
      obtain ⟨k1, k2, k3⟩ := rows_more hL (L5.trans L7) fe pl hl hj
      exact ⟨size_ok (by simp at hll ⊢; omega), _, .refl _, N6, as ++ [e], rs ++ [l], (L.trans L5).trans L7, R6, by simp, k1, k2, k3⟩
    · rintro acc M1 ⟨N1, as, rs, L1, R1, rfl, hL, hl, hj⟩ t ht
      have hl : rs.length = 3 := hl
      have hj : ∀ j, j < 3 → Prm m (rs.getD j []) := hj
      have R2 := R1.new (o := .lst (as.map D.ref)) ht
      have L2 := R1.newl (o := .lst (as.map D.ref)) ht
      have hT : LL (upM N1 t (.lst (as.map D.ref))) t (iL rs) := ⟨as, upM_same, hL.les L2⟩
      replace L2 := L1.trans L2
      generalize upM N1 t (.lst (as.map D.ref)) = N2 at R2 L2 hT
      generalize upM M1 t (.lst (as.map D.ref)) = M2 at R2 ⊢
      clear hL R1 L1
      walk_at "w"
      refine ⟨m, rfl, ⟨by omega, by omega, by omega, by omega, by omega⟩, fun u hu => ?_⟩
      have R5 := R2.new (o := .lst (rgD 0 (m : Int))) hu
      have L5 := R2.newl (o := .lst (rgD 0 (m : Int))) hu
      refine ⟨p, q, .ref u, rgD 0 (m : Int), _, rfl, R5, .ref upM_same, rg_pu, by rw [rg_len3]; omega, fun e ys N6 M6 pm L7 ne fe R6 => ?_⟩
      obtain ⟨nm, rfl, pn⟩ := prm_rg pm
      replace hT := (hT.les L5).les L7
      replace L2 := (L2.trans L5).trans L7
      clear R5 L5 L7 ne pm
      have rest : ∀ (b : Addr) (inn : List Int) (N7 M7 : DHp), Prm m inn → Les N6 N7 → N7 b = some (.lst (inn.map D.int)) → Rs N7 M7 p q →
          sSeq (sPar2 5 6 (aCons (dCall sp_mixed (Lx PE) (aCons (dVar 0) (aCons (dLst (aCons (dC (D.int 0)) (aCons (dC (D.int 1)) (aCons (dC (D.int 2)) aNil)))) aNil))) (aCons (dLst aNil) aNil)))
            (sSeq (sFor (iSq (dCall sp_lset (Lx PE) (aCons (dVar 1) (aCons (dC (D.int 3)) aNil)))) (gNm 7)
                (sSeq (sAsg (dLc (iSq (dVar 5)) (gNm 11) tYesD (dOp ixD (dOp ixD (dVar 2) (dVar 11)) (dOp ixD (dVar 7) (dVar 11))) (List.map (fun x => x.snd) [(Str.ofString "part", 11)])) (gTp 3 (gCo (gNm 8) (gCo (gNm 9) (gCo (gNm 10) gNl)))))
                  (sDrop (dMt appD (dVar 6) (aCons (dOp ixD (dVar 3) (dCall sp_times (Lx PE) (aCons (dVar 1) (aCons (dVar 8) (aCons (dOp ixD (dVar 4) (dCall sp_times (Lx PE) (aCons (dVar 1) (aCons (dVar 9) (aCons (dVar 10) aNil))))) aNil))))) aNil)))))
              (sRet (dVar 6)))
            { nx := fun x M' => Lk P D.non M', rt := Lk P } [some (.ref p), some (.int m), some (.ref t), some (.ref e), some (.ref b), none, none, none, none, none, none, none] M7 := fun b inn N7 M7 pi L7 fb R7 => by
        walk_at "w"
        refine ⟨(by show 3 ≤ sizeLine; decide), fun u hu => ?_⟩
        have R8 := R7.new (o := .lst [.int 0, .int 1, .int 2]) hu
        have L8 := R7.newl (o := .lst [.int 0, .int 1, .int 2]) hu
        refine ⟨p, q, .ref u, rgD 0 ((3 : Nat) : Int), _, rfl, R8, .ref upM_same, rg_pu, by decide, fun g ys N9 M9 pm L9 ng fg R9 => ?_⟩
        obtain ⟨od, rfl, po⟩ := prm_rg pm
        replace L7 := (L7.trans L8).trans L9
        have fb9 := (L8.trans L9) _ _ fb
        clear R8 L8 L9 R7 ng pm
        walk_at "w"
        refine ⟨Nat.zero_le _, fun v hv => ?_⟩
        have R10 := R9.new (o := .lst []) hv
        have L10 := R9.newl (o := .lst []) hv
        have fv : upM N9 v (.lst []) v = some (.lst []) := upM_same
        have v7 := (R9.nep hv).2.2
        have nv := (L2.trans L7).free v7
        have z1 := hT.les L7
        have z2 := L7 _ _ fe
        have z3 := L2.trans L7
        generalize upM N9 v (.lst []) = N10 at R10 fv L10
        generalize upM M9 v (.lst []) = M10 at R10 ⊢
        walk_at "w"
        refine ⟨m, 3, rfl, m8, by decide, fun h as2 M12 L12 nh na hh hB => ?_⟩
        obtain ⟨Ny, y1, y2, y3, R12⟩ := R10.newLL2 L12 nh na hh hB fv L10 v7
        obtain ⟨asb, yb, yB⟩ := y3
        have y4 := z1.les y1
        have y5 := y1 _ _ z2
        have y6 := y1 _ _ fb9
        have y8 := y1 _ _ fg
        have y7 := z3.trans y1
        clear z1 z2 z3 fv hh hB nh na L12 R10 R9 fg fb9 L7 L10 hv v7 fb
        have hsl : ∀ (j : Nat) (r : List Int), (setS (List.replicate 3 (m : Int)))[j]? = some r → IsS (List.replicate 3 (m : Int)) r := fun j r h => mem_setS.mp (List.mem_of_getElem? h)
        have big := pow_le4 (show 3 ≤ 4 by decide) m8
        have hll := len_rep m 3
        refine ⟨_, .ref (R12.l _ _ (les_new y2 _ _ yb)), fun i s M' => Rs (upM Ny v (.lst ((((setS (List.replicate 3 (m : Int))).map (prF m rs nm inn od)).take i).map D.int))) M' p q ∧ ∃ x6 x7 x8 x9 x10, s = [some (.ref p), some (.int m), some (.ref t), some (.ref e), some (.ref b), some (.ref g), some (.ref v), x6, x7, x8, x9, x10], .of ⟨R12, _, _, _, _, _, rfl⟩, fun i s M' _ ⟨R', _⟩ => .ref (R'.l _ _ (les_new y2 _ _ yb)), ?_, ?_⟩
        · rintro i x s M' hx ⟨R', x6, x7, x8, x9, x10, rfl⟩
          obtain ⟨c, r, rfl, hr, yc⟩ := sS_at yB hx
          have hi := (List.getElem?_eq_some_iff.mp hr).1
          have hS := hsl _ _ hr
          obtain ⟨lr, cr⟩ := isS_rep.mp hS
          generalize hW : ((((setS (List.replicate 3 (m : Int))).map (prF m rs nm inn od)).take i).map D.int) = W at R'
          have wr : ∀ k : Int, 0 ≤ k → k < 3 → 0 ≤ wAt rs r k ∧ wAt rs r k < m := fun k k0 k1 => wts_rng (n := 3) (fun j h => hj j h) hS k.toNat (by omega)
          have o0 := po.rng 0 (by decide)
          have o1 := po.rng 1 (by decide)
          have o2 := po.rng 2 (by decide)
          walk_at "w"
          refine ⟨_, .ref (R'.l _ _ (les_new y2 _ _ y8)), fun k acc M2 => Rs (upM Ny v (.lst W)) M2 p q ∧ acc = ((od.map fun k => wAt rs r k).take k).map D.int, ⟨_, .refl _, R', rfl⟩, fun k acc M2 _ ⟨R2, _⟩ => .ref (R2.l _ _ (les_new y2 _ _ y8)), ?_, ?_⟩
          · rintro k x acc M2 hx ⟨R2, rfl⟩
            obtain ⟨o, h1, rfl⟩ := int_at hx
            have hk := (List.getElem?_eq_some_iff.mp h1).1
            have eo : od.getD k 0 = o := by rw [List.getD_eq_getElem?_getD, h1]; rfl
            have or_ := po.rng k (by rw [← po.len]; exact hk)
            rw [eo] at or_
            obtain ⟨j, rfl⟩ : ∃ j : Nat, o = j := ⟨o.toNat, by omega⟩
            have hj3 : j < 3 := by omega
            have ck := cr j hj3
            have hrk : rs[j]? = some (rs[j]'(by omega)) := List.getElem?_eq_getElem _
            have prk := hj j hj3
            have erk : rs.getD j [] = rs[j]'(by omega) := by rw [List.getD_eq_getElem?_getD, hrk]; rfl
            obtain ⟨ak, dk, t1, t2, t3⟩ := ((y4.les (les_new y2)).les R2.l).at (i := j) (r := (rs.getD j []).map D.int) (by rw [List.getElem?_map, hrk, erk]; rfl)
            obtain ⟨wv, w1, w2⟩ := prm_at prk ck.1 ck.2
            have yc2 := R2.l _ _ (les_new y2 _ _ yc)
            walk_at "w"
            refine .inl ⟨_, _, _, .ref t1, rfl, t2, ?_⟩
            walk_at "w"
            refine .inl ⟨_, _, _, .ref yc2, rfl, ints_at (v := r.getD j 0) (by rw [List.getD_eq_getElem?_getD, List.getElem?_eq_getElem (by omega)]; rfl), ?_⟩
            refine .inl ⟨_, _, _, .ref t3, rfl, w1, ?_⟩
            refine ⟨size_ok (by simp; have := po.len; omega), _, .refl _, R2, ?_⟩
            have ew : wAt rs r (j : Nat) = wv := by
              unfold wAt
              rw [Int.toNat_natCast, wts_at (by omega), w2]
            rw [List.take_add_one, List.map_append, List.getElem?_map, h1]
            show _ = _ ++ [D.int (wAt rs r (j : Nat))]
            rw [ew]
          · rintro acc M2 ⟨R2, rfl⟩ l hl2
            have ol := po.len
            have ed : ((od.map fun k => wAt rs r k).take (od.map D.int).length).map D.int = [.int (wAt rs r (od.getD 0 0)), .int (wAt rs r (od.getD 1 0)), .int (wAt rs r (od.getD 2 0))] := by
              rw [List.take_of_length_le (by simp)]
              match od, ol with
              | [a, b, c], _ => rfl
            rw [ed]
            have x := wr _ o0.1 o0.2
            have y := wr _ o1.1 o1.2
            have z := wr _ o2.1 o2.2
            have fr : prF m rs nm inn od r = nm.getD (tmI m (wAt rs r (od.getD 0 0)) (inn.getD (tmI m (wAt rs r (od.getD 1 0)) (wAt rs r (od.getD 2 0))).toNat 0)).toNat 0 := rfl
            generalize wAt rs r (od.getD 0 0) = x1 at x fr ⊢
            generalize wAt rs r (od.getD 1 0) = y1' at y fr ⊢
            generalize wAt rs r (od.getD 2 0) = z1 at z fr ⊢
            have R3 := R2.new (o := .lst [.int x1, .int y1', .int z1]) hl2
            have L3 := R2.newl (o := .lst [.int x1, .int y1', .int z1]) hl2
            have f3 : upM M2 l (.lst [.int x1, .int y1', .int z1]) l = some (.lst [.int x1, .int y1', .int z1]) := upM_same
            replace R3 := R3.les L3
            generalize upM M2 l (.lst [.int x1, .int y1', .int z1]) = M3 at R3 f3 ⊢
            have a := tm.rng _ _ y.1 y.2 z.1 z.2
            obtain ⟨w1, w2, w3⟩ := prm_at pi a.1 a.2
            have b := pi.rng' a.1 a.2
            rw [← w3] at b fr
            have c := tm.rng _ _ x.1 x.2 b.1 b.2
            obtain ⟨u1, u2, u3⟩ := prm_at pn c.1 c.2
            rw [← u3] at fr
            have fv3 := R3.l _ _ upM_same
            walk_at "w"
            refine ⟨_, .inl f3, rfl, ?_⟩
            walk_at "w"
            refine ⟨⟨v, _, rfl, .inl fv3⟩, ?_⟩
            walk_at "w"
            refine ⟨_, _, _, rfl, by omega, by omega, ?_⟩
            refine .inl ⟨_, _, _, .ref (R3.l _ _ (les_new y2 _ _ y6)), rfl, w2, ?_⟩
            refine ⟨_, _, _, rfl, by omega, by omega, ?_⟩
            refine .inl ⟨_, _, _, .ref (R3.l _ _ (les_new y2 _ _ y5)), rfl, u2, ?_⟩
            have hWl : W.length ≤ 4096 := by rw [← hW]; simp; omega
            refine ⟨v, _, _, rfl, rfl, fv3, size_ok (by omega), ?_⟩
            have R4 := R3.put (e := v) (o := .lst (W ++ [.int u1])) upM_same
            rw [upM_two] at R4
            refine .of ⟨?_, _, _, _, _, _, rfl⟩
            rw [← hW, ← fr] at R4 ⊢
            rw [List.take_add_one, List.map_append, List.getElem?_map, hr]
            exact R4
        · rintro s M' ⟨R', x6, x7, x8, x9, x10, rfl⟩
          walk_at "w"
          rw [List.take_of_length_le (by have := yB.len; simp [iL] at this ⊢; omega)] at R'
          exact Lk.of (qq v (prF m rs nm inn od) _ _ (y7.trans (les_new y2)) nv upM_same (pr_good tm (fun i hi => hj i hi) pn pi po) R')
      walk_at "w"
      refine ⟨(by show 2 ≤ sizeLine; decide), rfl, ?_⟩
      walk_at "w"
      refine ⟨p, q, 3, N6, rfl, R6, by decide, by decide, fun r M3 R3 r1 r2 => ?_⟩
      refine ifB_mk (fun h1 => ?_) (fun h1 => ?_)
      · walk_at "w"
        refine ⟨m, rfl, ⟨by omega, by omega, by omega, by omega, by omega⟩, fun b hb => ?_⟩
        have R5 := R3.new (o := .lst (rgD 0 (m : Int))) hb
        have L5 := R3.newl (o := .lst (rgD 0 (m : Int))) hb
        obtain ⟨inn, ei, pi⟩ := prm_rg (m := m) (.refl (rgD 0 (m : Int)))
        exact rest b inn _ _ pi L5 (by rw [upM_same, ei]) R5
      · walk_at "w"
        refine ⟨m, rfl, ⟨by omega, by omega, by omega, by omega, by omega⟩, fun u hu => ?_⟩
        have R5 := R3.new (o := .lst (rgD 0 (m : Int))) hu
        have L5 := R3.newl (o := .lst (rgD 0 (m : Int))) hu
        refine ⟨p, q, .ref u, rgD 0 (m : Int), _, rfl, R5, .ref upM_same, rg_pu, by rw [rg_len3]; omega, fun b ys N7 M7 pm L7 nb fb R7 => ?_⟩
        obtain ⟨inn, rfl, pi⟩ := prm_rg pm
        exact rest b inn _ _ pi (L5.trans L7) fb R7
end
end K83
set_option linter.all false
namespace K83
open PySem PySem.Spec PyProof.Rows L2 DL
local macro_rules | `(tactic| walk_at "w") => `(tactic| conv => whnf)
section
variable {P₀ : Program} {w : World} {K : PySem.W.Frag} {mg : Str → Option Value} {base : Heap}
abbrev s__law_board : Stmt := top 54
abbrev N__law_board : List Str := ["deal", "kind", "size", "many", "rows", "sums", "part", "setting", "content", "total"]
abbrev P__law_board : List Str := ["deal"]
theorem sc__law_board : FnScope N__law_board P__law_board (defScope s__law_board) := ⟨rfl, rfl, rfl, by decide +kernel, rfl, by decide +kernel, by decide +kernel⟩
def SumB (m n : Nat) (f : List Int → Int) : Prop := ∃ (R : List (List Int)) (nm : List Int), (∀ i, i < n → Prm m (R.getD i [])) ∧ Prm m nm ∧ f = smF m R nm
def sp_board : DSp := fun ds M Q _ => ∃ (p q : Addr) (N : DHp), ds = [.ref p] ∧ Rs N M p q ∧ ∀ (m n : Nat) (e : Addr) (f : List Int → Int) (N' M' : DHp), Les N N' → N e = none → N' e = some (.lst (((setS (List.replicate n (m : Int))).map f).map D.int)) → GoodF m n f → 2 ≤ m → m ≤ 8 → 1 ≤ n → n ≤ 4 → m ^ n ≤ 512 → (m ≤ 3 → SumB m n f) → Rs N' M' p q → Q (.tup [.int m, .int n, .ref e]) M'
theorem ok_board {f : Addr} {fd : FuncData} (Dd : Df K mg "_law_board" s__law_board f fd P__law_board) (Z : Zs mg) (G__law_draw : Cal P₀ w K mg base "_law_draw" 1 sp_draw) (G__law_pick : Cal P₀ w K mg base "_law_pick" 2 sp_lpick) (G__law_mixed : Cal P₀ w K mg base "_law_mixed" 2 sp_mixed) (G__law_settings : Cal P₀ w K mg base "_law_settings" 1 sp_lset)
    (G__law_two_bits : Cal P₀ w K mg base "_law_two_bits" 4 (sp_made 4 3)) (G__law_products : Cal P₀ w K mg base "_law_products" 4 sp_prods) : Cal P₀ w K mg base "_law_board" 5 sp_board := by
  refine Dd.cal sc__law_board (fun ds M P PE h => ?_) (fun cdv A outer s H E ds M P PE hr tk h => ⟨_, (dss_cons (ds_set 1 sc__law_board.nd (de_call G__law_draw (hr.mono (by decide)) tk (da_cons (de_var 0) (da_cons de_int da_nil))))
    (dss_cons (ds_if (dt_cmp or_lt (de_var 1) de_int) (dss_cons (ds_set 2 sc__law_board.nd (de_ite (dt_cmp (or_eq hr.r.units) (de_var 1) de_int) de_int de_int))
    (dss_one (ds_ret (de_tup (da_cons de_int (da_cons (de_var 2) (da_cons (de_call G__law_two_bits (hr.mono (by decide)) tk (da_cons (de_var 0) (da_cons (de_var 2) da_nil))) da_nil))))))) dss_nil)
    (dss_cons (ds_if (dt_cmp (or_eq hr.r.units) (de_var 1) de_int) (dss_cons (ds_set 3 sc__law_board.nd (de_call G__law_pick (hr.mono (by decide)) tk (da_cons (de_var 0) (da_cons (de_lst (da_cons de_int (da_cons de_int (da_cons de_int da_nil)))) da_nil))))
    (dss_one (ds_ret (de_tup (da_cons (de_var 3) (da_cons de_int (da_cons (de_call G__law_products (hr.mono (by decide)) tk (da_cons (de_var 0) (da_cons (de_var 3) da_nil))) da_nil))))))) dss_nil)
    (dss_cons (ds_asg (de_tup (da_cons (de_op or_add de_int (de_call G__law_draw (hr.mono (by decide)) tk (da_cons (de_var 0) (da_cons de_int da_nil)))) (da_cons (de_op or_add de_int (de_call G__law_draw (hr.mono (by decide)) tk (da_cons (de_var 0) (da_cons de_int da_nil)))) da_nil))) (dg_tup (n := 2) rfl (dgs_cons (dg_name 3 sc__law_board.nd) (dgs_cons (dg_name 2 sc__law_board.nd) dgs_nil))))
    (dss_cons (ds_set 4 sc__law_board.nd (de_lc sc__law_board.nd (own := [("part", 6)]) (di_rg1 Z.rng (de_op or_add (de_var 2) de_int)) (blkOk_by (N := N__law_board) (sc := defScope s__law_board) (by decide +kernel)) (ct_name 6)
      (fun _ _ _ _ _ => (pg_name (i := 6) sc__law_board.nd rfl (.inl rfl))) (fun _ _ _ _ _ => dts_nil) (fun _ _ _ _ _ => (de_call G__law_mixed (hr.mono (by decide)) tk0 (da_cons (de_var 0) (da_cons (de_lstRg1 Z.lst Z.rng (de_var 3)) da_nil))))))
    (dss_cons (ds_setLc 5 sc__law_board.nd (own := [("setting", 7)]) (di_sq (de_call G__law_settings (hr.mono (by decide)) tk (da_cons (de_var 3) (da_cons (de_var 2) da_nil)))) (blkOk_by (N := N__law_board) (sc := defScope s__law_board) (by decide +kernel)) (ct_name 7)
      (fun _ _ _ _ _ => (pg_name (i := 7) sc__law_board.nd rfl (.inl rfl))) (fun _ _ _ _ _ => dts_nil) (fun _ _ _ _ _ => (de_fnB (cr_sumD rfl) Z.sum (da_cons (de_lc sc__law_board.nd (own := [("part", 6), ("content", 8)]) (di_en Z.enum (de_var 7)) (blkOk_by rfl) (ct_tup (ct_cons (ct_name 6) (ct_cons (ct_name 8) ct_nil)))
      (fun _ _ _ _ _ => (pg_TL (n := 2) rfl (pgs_cons (pg_name (i := 6) sc__law_board.nd rfl (.inl rfl)) (pgs_cons (pg_name (i := 8) sc__law_board.nd rfl (.inl rfl)) pgs_nil)))) (fun _ _ _ _ _ => dts_nil) (fun _ _ _ _ _ => (de_ix (de_ix (de_var 4) (de_var 6)) (de_var 8)))) da_nil))))
    (dss_one (ds_ret (de_tup (da_cons (de_var 3) (da_cons (de_var 2) (da_cons (de_lc sc__law_board.nd (own := [("total", 9)]) (di_sq (de_var 5)) (blkOk_by (N := N__law_board) (sc := defScope s__law_board) (by decide +kernel)) (ct_name 9)
      (fun _ _ _ _ _ => (pg_name (i := 9) sc__law_board.nd rfl (.inl rfl))) (fun _ _ _ _ _ => dts_nil) (fun _ _ _ _ _ => (de_ix (de_ix (de_var 4) (de_var 2)) (de_op or_mod (de_fnT cr_int Z.int (da_cons (de_var 9) da_nil)) (de_var 3))))) da_nil)))))))))))), ?_⟩)
  · obtain ⟨_, _, _, rfl, _⟩ := h
    rfl
  · obtain ⟨p, q, N, rfl, R, qq⟩ := h
    walk_at "w"
    refine ⟨p, q, 7, N, rfl, R, by decide, by decide, fun r M1 R1 r1 r2 => ?_⟩
    walk_at "w"
    refine ifB_mk (fun h1 => ?_) (fun h1 => ?_)
    · walk_at "w"
      refine ifB_mk (fun h2 => ?_) (fun h2 => ?_)
      · walk_at "w"
        refine ⟨p, q, 4, N, rfl, R1, by decide, by decide, fun e f N' M' L ne fe gd R' => ?_⟩
        exact ⟨(by show 3 ≤ sizeLine; decide), Lk.of (qq 4 4 e f N' M' L ne fe gd (by decide) (by decide) (by decide) (by decide) (by decide) (fun h => absurd h (by decide)) R')⟩
      · walk_at "w"
        refine ⟨p, q, 3, N, rfl, R1, by decide, by decide, fun e f N' M' L ne fe gd R' => ?_⟩
        exact ⟨(by show 3 ≤ sizeLine; decide), Lk.of (qq 4 3 e f N' M' L ne fe gd (by decide) (by decide) (by decide) (by decide) (by decide) (fun h => absurd h (by decide)) R')⟩
    · walk_at "w"
      refine ifB_mk (fun h2 => ?_) (fun h2 => ?_)
      · walk_at "w"
        refine ⟨(by show 3 ≤ sizeLine; decide), fun a ha => ?_⟩
        have R2 := R1.new (o := .lst [.int 6, .int 6, .int 8]) ha
        have L2 := R1.newl (o := .lst [.int 6, .int 6, .int 8]) ha
        refine ⟨p, q, .ref a, _, _, rfl, R2, .ref upM_same, by decide, by decide, fun v M3 R3 hv => ?_⟩
        replace R3 := R3.les L2
        obtain ⟨m, rfl, tm, m4, m8, m5⟩ : ∃ m : Nat, v = .int m ∧ Tm m ∧ 4 ≤ m ∧ m ≤ 8 ∧ m ^ 3 ≤ 512 := by
          simp only [List.mem_cons, List.not_mem_nil, or_false] at hv
          rcases hv with rfl | rfl | rfl
          · exact ⟨6, rfl, tm_of tm6, by decide, by decide, by decide⟩
          · exact ⟨6, rfl, tm_of tm6, by decide, by decide, by decide⟩
          · exact ⟨8, rfl, tm_of tm8, by decide, by decide, by decide⟩
        clear R2 L2 hv
        walk_at "w"
        refine ⟨p, q, m, N, rfl, R3, tm, (by omega), m8, fun e f N' M' L ne fe gd R' => ?_⟩
        exact ⟨(by show 3 ≤ sizeLine; decide), Lk.of (qq m 3 e f N' M' L ne fe gd (by omega) m8 (by decide) (by decide) m5 (fun h => by omega) R')⟩
      · walk_at "w"
        refine ⟨p, q, 5, N, rfl, R1, by decide, by decide, fun a M2 R2 a1 a2 => ?_⟩
        walk_at "w"
        refine ⟨p, q, 3, N, rfl, R2, by decide, by decide, fun b M3 R3 b1 b2 => ?_⟩
        obtain ⟨m, em⟩ : ∃ m : Nat, 2 + a = m := ⟨(2 + a).toNat, by omega⟩
        obtain ⟨n, en⟩ : ∃ n : Nat, 1 + b = n := ⟨(1 + b).toNat, by omega⟩
        rw [em]
        walk_at "w"
        refine ⟨(by show 2 ≤ sizeLine; decide), rfl, ?_⟩
        rw [en]
        have m2 : 2 ≤ m := by omega
        have m6 : m ≤ 6 := by omega
        have n1 : 1 ≤ n := by omega
        have n3 : n ≤ 3 := by omega
        clear em en a1 a2 b1 b2 R2 R1
        walk_at "w"
        refine ⟨_, rfl, ⟨by omega, by omega⟩, ?_⟩
        refine ⟨fun i acc M' => ∃ (N' : DHp) (as : List Addr) (rs : List (List Int)), Les N N' ∧ Rs N' M' p q ∧ acc = as.map D.ref ∧ LLs N' as (iL rs) ∧ rs.length = i ∧ ∀ (j : Nat), j < i → Prm m (rs.getD j []), ⟨_, .refl _, N, [], [], .refl _, R3, rfl, .nil, rfl, fun j h => absurd h (Nat.not_lt_zero _)⟩, fun _ _ _ _ _ => trivial, ?_, ?_⟩
        · rintro i x acc M' hx ⟨N', as, rs, L, R', rfl, hL, hl, hj⟩
          have hi : i < 5 := by
            have := (List.getElem?_eq_some_iff.mp hx).1
            rw [rgD_len] at this
            omega
          walk_at "w"
          refine ⟨m, rfl, ⟨by omega, by omega, by omega, by omega, by omega⟩, fun u hu => ?_⟩
          have R5 := R'.new (o := .lst (rgD 0 (m : Int))) hu
          have L5 := R'.newl (o := .lst (rgD 0 (m : Int))) hu
          refine ⟨p, q, .ref u, rgD 0 (m : Int), _, rfl, R5, .ref upM_same, rg_pu, by rw [rg_len3]; omega, fun e ys N6 M6 pm L7 ne fe R6 => ?_⟩
          obtain ⟨l, rfl, pl⟩ := prm_rg pm
          have hll := hL.len
          obtain ⟨k1, k2, k3⟩ := rows_more hL (L5.trans L7) fe pl hl hj
          exact ⟨size_ok (by simp at hll ⊢; omega), _, .refl _, N6, as ++ [e], rs ++ [l], (L.trans L5).trans L7, R6, by simp, k1, k2, k3⟩
        · rintro acc M4 ⟨N4, as, rs, L4, R4, rfl, hL, hl, hj⟩ t ht
          rw [rgD_len] at hl hj
          have hl : rs.length = n + 1 := by omega
          have hj : ∀ j, j < n + 1 → Prm m (rs.getD j []) := fun j h => hj j (by omega)
          have R5 := R4.new (o := .lst (as.map D.ref)) ht
          have L5 := R4.newl (o := .lst (as.map D.ref)) ht
          have hT : LL (upM N4 t (.lst (as.map D.ref))) t (iL rs) := ⟨as, upM_same, hL.les L5⟩
          replace L5 := L4.trans L5
          generalize upM N4 t (.lst (as.map D.ref)) = N5 at R5 L5 hT
          generalize upM M4 t (.lst (as.map D.ref)) = M5 at R5 ⊢
          clear hL R4 L4 R3
          walk_at "w"
          refine ⟨m, n, rfl, by omega, by omega, fun h as2 M6 L6 nh na hh hB => ?_⟩
          obtain ⟨N6, l6, R6, asb, yb, yB⟩ := R5.newLL L6 nh na hh hB
          replace hT := hT.les l6
          replace L5 := L5.trans l6
          have hsl : ∀ (j : Nat) (r : List Int), (setS (List.replicate n (m : Int)))[j]? = some r → IsS (List.replicate n (m : Int)) r := fun j r h => mem_setS.mp (List.mem_of_getElem? h)
          have big := pow_le4 (show n ≤ 4 by omega) (show m ≤ 8 by omega)
          have big2 : m ^ n ≤ 512 := by
            have a : m ^ n ≤ 6 ^ n := Nat.pow_le_pow_left m6 n
            have b : 6 ^ n ≤ 6 ^ 3 := Nat.pow_le_pow_right (by decide) n3
            omega
          have hll := len_rep m n
          have hbl := yB.len
          simp only [iL, List.length_map] at hbl
          clear hh hB nh na L6 l6 R5
          walk_at "w"
          refine ⟨_, .ref (R6.l _ _ yb), fun i acc M' => Rs N6 M' p q ∧ acc = (((setS (List.replicate n (m : Int))).map fun r => (wts rs r).sum).take i).map D.int, ⟨_, .refl _, R6, rfl⟩, fun i acc M' _ ⟨R', _⟩ => .ref (R'.l _ _ yb), ?_, ?_⟩
          · rintro i x acc M' hx ⟨R', rfl⟩
            obtain ⟨c, r, rfl, hr, yc⟩ := sS_at yB hx
            have hi := (List.getElem?_eq_some_iff.mp hr).1
            have hS := hsl _ _ hr
            obtain ⟨lr, cr⟩ := isS_rep.mp hS
            have yc' := R'.l _ _ yc
            walk_at "w"
            refine ⟨_, .ref yc', fun k acc M2 => Rs N6 M2 p q ∧ acc = ((wts rs r).take k).map D.int, ⟨_, .refl _, R', by simp⟩, fun k acc M2 _ ⟨R2, _⟩ => .ref (R2.l _ _ yc), ?_, ?_⟩
            · rintro k x acc M2 hx ⟨R2, rfl⟩
              obtain ⟨d, h1, rfl⟩ := en_at hx
              obtain ⟨cc, h2, rfl⟩ := int_at h1
              have hk := (List.getElem?_eq_some_iff.mp h2).1
              have ecc : r.getD k 0 = cc := by rw [List.getD_eq_getElem?_getD, h2]; rfl
              have ck := cr k (by omega)
              rw [ecc] at ck
              have hrk : rs[k]? = some (rs[k]'(by omega)) := List.getElem?_eq_getElem _
              have prk := hj k (by omega)
              have erk : rs.getD k [] = rs[k]'(by omega) := by rw [List.getD_eq_getElem?_getD, hrk]; rfl
              obtain ⟨ak, dk, t1, t2, t3⟩ := (hT.les R2.l).at (i := k) (r := (rs.getD k []).map D.int) (by rw [List.getElem?_map, hrk, erk]; rfl)
              obtain ⟨wv, w1, w2⟩ := prm_at prk ck.1 ck.2
              have ht2 := wts_take (R := rs) hk
              rw [ecc, ← w2] at ht2
              refine ⟨rfl, ?_⟩
              walk_at "w"
              refine .inl ⟨_, _, _, .ref t1, rfl, t2, ?_⟩
              refine .inl ⟨_, _, _, .ref t3, rfl, w1, ?_⟩
              refine ⟨size_ok (by simp; omega), _, .refl _, R2, ?_⟩
              rw [ht2, List.map_append]
              rfl
            · rintro acc M2 ⟨R2, rfl⟩ l hl2
              rw [List.take_of_length_le (by simp [enD, wts_len])]
              have R3 := R2.new (o := .lst ((wts rs r).map D.int)) hl2
              have L3 := R2.newl (o := .lst ((wts rs r).map D.int)) hl2
              refine ⟨l, _, rfl, .inl upM_same, ?_⟩
              refine ⟨size_ok (by simp; omega), _, .refl _, R3.les L3, ?_⟩
              rw [List.take_add_one, List.map_append, List.getElem?_map, hr]
              rfl
          · rintro acc M7 ⟨R7, rfl⟩ b hb
            rw [List.take_of_length_le (by simp; omega)]
            have R8 := R7.new (o := .lst (((setS (List.replicate n (m : Int))).map fun r => (wts rs r).sum).map D.int)) hb
            have L8 := R7.newl (o := .lst (((setS (List.replicate n (m : Int))).map fun r => (wts rs r).sum).map D.int)) hb
            have f8 : upM N6 b (.lst (((setS (List.replicate n (m : Int))).map fun r => (wts rs r).sum).map D.int)) b = some (.lst (((setS (List.replicate n (m : Int))).map fun r => (wts rs r).sum).map D.int)) := upM_same
            have hT8 := hT.les L8
            replace L5 := L5.trans L8
            generalize upM N6 b (.lst (((setS (List.replicate n (m : Int))).map fun r => (wts rs r).sum).map D.int)) = N8 at R8 f8 hT8 L5
            generalize upM M7 b (.lst (((setS (List.replicate n (m : Int))).map fun r => (wts rs r).sum).map D.int)) = M8 at R8 ⊢
            clear L8 R7 hb R6 yb yB
            have hrn : rs[n]? = some (rs[n]'(by omega)) := List.getElem?_eq_getElem _
            have prn := hj n (by omega)
            have ern : rs.getD n [] = rs[n]'(by omega) := by rw [List.getD_eq_getElem?_getD, hrn]; rfl
            have gd := sm_good (n := n) (by omega : 1 ≤ m) (fun i hi => hj i (by omega)) prn
            walk_at "w"
            refine ⟨_, .ref (R8.l _ _ f8), fun i acc M' => Rs N8 M' p q ∧ acc = (((setS (List.replicate n (m : Int))).map (smF m rs (rs.getD n []))).take i).map D.int, ⟨_, .refl _, R8, rfl⟩, fun i acc M' _ ⟨R', _⟩ => .ref (R'.l _ _ f8), ?_, ?_⟩
            · rintro i x acc M' hx ⟨R', rfl⟩
              obtain ⟨tt, h1, rfl⟩ := int_at hx
              rw [List.getElem?_map] at h1
              obtain ⟨r, hr, e1⟩ := Option.map_eq_some_iff.mp h1
              have e1 : (wts rs r).sum = tt := e1
              subst e1
              have hi := (List.getElem?_eq_some_iff.mp hr).1
              obtain ⟨ak, dk, t1, t2, t3⟩ := (hT8.les R'.l).at (i := n) (r := (rs.getD n []).map D.int) (by rw [List.getElem?_map, hrn, ern]; rfl)
              obtain ⟨wv, w1, w2⟩ := prm_at prn (Int.emod_nonneg (wts rs r).sum (show (m : Int) ≠ 0 by omega)) (Int.emod_lt_of_pos (wts rs r).sum (show (0 : Int) < m by omega))
              walk_at "w"
              refine .inl ⟨_, _, _, .ref t1, rfl, t2, ?_⟩
              walk_at "w"
              refine ⟨by omega, ?_⟩
              refine .inl ⟨_, _, _, .ref t3, rfl, w1, ?_⟩
              refine ⟨size_ok (by simp; omega), _, .refl _, R', ?_⟩
              rw [List.take_add_one, List.map_append, List.getElem?_map, hr]
              show _ = _ ++ [D.int (smF m rs (rs.getD n []) r)]
              unfold smF
              rw [w2]
            · rintro acc M9 ⟨R9, rfl⟩ c hc
              rw [List.take_of_length_le (by simp)]
              have R10 := R9.new (o := .lst (((setS (List.replicate n (m : Int))).map (smF m rs (rs.getD n []))).map D.int)) hc
              have L10 := R9.newl (o := .lst (((setS (List.replicate n (m : Int))).map (smF m rs (rs.getD n []))).map D.int)) hc
              exact ⟨(by show 3 ≤ sizeLine; decide), Lk.of (qq m n c _ _ _ (L5.trans L10) (L5.free (R9.nep hc).2.2) upM_same gd m2 (by omega) n1 (by omega) big2 (fun _ => ⟨rs, rs.getD n [], fun i hi => hj i (by omega), prn, rfl⟩) R10)⟩
end
end K83
set_option linter.all false
namespace K83
open PySem PySem.Spec PyProof.Rows L2 DL
local macro_rules | `(tactic| walk_at "w") => `(tactic| conv => whnf)
/-! settings as data -/
def rP (r : List Int) : PyData := .tuple (r.map PyData.int)
def rsP (rows : List (List Int)) : PyData := .tuple (rows.map rP)
theorem pd_r {M : DHp} (r : List Int) : Pd M (tpD r) (rP r) := .tup (pd_ints r)
theorem pds_rs {M : DHp} : ∀ rows : List (List Int), Pds M (rows.map tpD) (rows.map rP)
  | [] => .nil
  | r :: rows => .cons (pd_r r) (pds_rs rows)
theorem pd_rs {M : DHp} (rows : List (List Int)) : Pd M (.tup (rows.map tpD)) (rsP rows) := .tup (pds_rs rows)
theorem eqv_r (r s : List Int) : PyData.eqv (rP r) (rP s) = decide (r = s) := by
  unfold rP
  rw [PyData.eqv, eqv_ints]
theorem eqv_all : ∀ rows : List (List Int), PyData.eqvAll (rows.map rP) (rows.map rP) = true
  | [] => by simp [PyData.eqvAll]
  | r :: rows => by
    rw [List.map_cons, PyData.eqvAll, eqv_r, eqv_all rows]
    simp
theorem eqv_rs (rows : List (List Int)) : PyData.eqv (rsP rows) (rsP rows) = true := by
  unfold rsP
  rw [PyData.eqv, eqv_all]
theorem gd_r {r : List Int} {b : Nat} (h : ∀ n ∈ r, Lo n) (l : r.length ≤ b) : Gd (31 * b) 1 (rP r) := gd_tup (gds_ints h l)
theorem gds_rs {b : Nat} : ∀ {rows : List (List Int)}, (∀ r ∈ rows, (∀ n ∈ r, Lo n) ∧ r.length ≤ b) → Gds ((31 * b + 1) * rows.length) 1 (rows.map rP)
  | [], _ => by
    have := gds_nil (d := 1)
    exact ⟨this.lay, this.dp, by have := this.w; exact Nat.le_trans this (Nat.zero_le _), this.sh, this.sw⟩
  | r :: rows, h => by
    obtain ⟨h1, h2⟩ := h r List.mem_cons_self
    have a := gds_cons (gd_r h1 h2) (gds_rs (b := b) fun s hs => h s (List.mem_cons_of_mem _ hs))
    have e : (31 * b + 1) * (r :: rows).length = 31 * b + 1 + (31 * b + 1) * rows.length := by rw [List.length_cons, Nat.mul_succ, Nat.add_comm]
    rw [e]
    exact a
theorem gd_rs {rows : List (List Int)} {b k : Nat} (h : ∀ r ∈ rows, (∀ n ∈ r, Lo n) ∧ r.length ≤ b) (l : rows.length ≤ k) : Gd ((31 * b + 1) * k) 2 (rsP rows) :=
  (gd_tup (gds_rs h)).up (Nat.mul_le_mul_left _ l) (Nat.le_refl _)
theorem Gd.shaped {n d : Nat} {x : PyData} (g : Gd n d x) (h : d ≤ 64) : SeqAt.shaped x = true := by
  unfold SeqAt.shaped
  rw [Bool.and_eq_true]
  exact ⟨g.lay, decide_eq_true (Nat.le_trans g.dp h)⟩
theorem lo_small {i : Int} (h0 : 0 ≤ i) (h1 : i ≤ 1000000) : Lo i := ⟨by omega, by omega⟩
theorem is_lo {ns r : List Int} (h : IsS ns r) (hn : ∀ n ∈ ns, n ≤ 20000) : ∀ n ∈ r, Lo n := fun n hn' => by
  obtain ⟨i, hi, rfl⟩ := List.mem_iff_getElem.mp hn'
  have := h.2 i (by rw [← h.1]; exact hi)
  rw [List.getD_eq_getElem?_getD, List.getElem?_eq_getElem hi] at this
  have hm := hn _ (getD_mem2 (l := ns) (i := i) (by rw [← h.1]; exact hi))
  have t1 : 0 ≤ r[i] ∧ r[i] < ns.getD i 0 := this
  exact lo_small t1.1 (by omega)
theorem first_nil {p : Nat → Bool} : ∀ n, (firstN p n).isNone = decide ((List.range n).filter p = [])
  | 0 => by simp [firstN]
  | n + 1 => by
    have ih := first_nil (p := p) n
    unfold firstN
    rw [List.range_succ, List.filter_append]
    cases h : firstN p n with
    | some i =>
      rw [h] at ih
      have : ¬ (List.range n).filter p = [] := by simpa using ih.symm
      simp [this]
    | none =>
      rw [h] at ih
      have e : (List.range n).filter p = [] := by simpa using ih.symm
      rw [e, List.nil_append]
      cases hp : p n <;> simp [hp]
theorem pl_nil (o : Option Nat) : isN (plD o) = o.isNone := by cases o <;> rfl
theorem ld_ok {n : Int} {o : Option (List D)} (h : ldD n o = .non) : ∃ ks : List Int, o = some (ks.map D.int) := by
  cases o with
  | none => cases h
  | some xs =>
    unfold ldD at h
    dsimp only at h
    split at h
    · cases h
    · cases hf : firstN (badL n xs) xs.length with
      | some i => rw [hf] at h; cases h
      | none =>
        refine ⟨xs.map toI, ?_⟩
        refine congrArg some (all_int (p := isB n) (fun d hd => by cases d <;> first | exact ⟨_, rfl⟩ | cases hd) fun x hx => ?_)
        obtain ⟨i, hi, rfl⟩ := List.mem_iff_getElem.mp hx
        have := firstN_none hf i hi
        unfold badL at this
        rw [List.getD_eq_getElem?_getD, List.getElem?_eq_getElem hi] at this
        cases z : isB n xs[i] with
        | true => rfl
        | false =>
          have z2 : isB n ((some xs[i]).getD .non) = false := z
          rw [z2] at this
          cases this
theorem ld_not {n : Int} {o : Option (List D)} (h : ldD n o ≠ .non) : ∃ i, ldD n o = .int i := by
  cases o with
  | none => exact ⟨_, rfl⟩
  | some xs =>
    unfold ldD at h ⊢
    dsimp only at h ⊢
    split
    · exact ⟨_, rfl⟩
    · rename_i q
      rw [if_neg q] at h
      cases hf : firstN (badL n xs) xs.length with
      | some i => exact ⟨_, rfl⟩
      | none => rw [hf] at h; exact (h rfl).elim
end K83
set_option linter.all false
namespace K83
open PySem PySem.Spec PyProof.Rows L2 DL
local macro_rules | `(tactic| walk_at "w") => `(tactic| conv => whnf)
/-- told parts -/
abbrev prsD (ps : List (Nat × Int)) : List D := ps.map fun p => .tup [.int (p.1 : Nat), .int p.2]
theorem prs_at {ps : List (Nat × Int)} {i : Nat} {x : D} (h : (prsD ps)[i]? = some x) : ∃ a c, ps[i]? = some (a, c) ∧ x = .tup [.int (a : Nat), .int c] := by
  unfold prsD at h
  rw [List.getElem?_map] at h
  obtain ⟨p, a, b⟩ := Option.map_eq_some_iff.mp h
  exact ⟨p.1, p.2, a, b.symm⟩
def fits (ps : List (Nat × Int)) (r : List Int) : Bool := ps.all fun p => decide (r.getD p.1 0 = p.2)
def fitB (ns ks : List Int) (ps : List (Nat × Int)) (mk : Int) (r : List Int) : Bool := decide (fV ns ks r = mk) && fits ps r
def fitL (ns ks : List Int) (ps : List (Nat × Int)) (mk : Int) : List (List Int) := (setS ns).filter (fitB ns ks ps mk)
theorem fit_len {mv : Int} {ns ks : List Int} (B : BdOk mv ns ks) (ps : List (Nat × Int)) (mk : Int) : (fitL ns ks ps mk).length ≤ 20000 := by
  have a := List.length_filter_le (fitB ns ks ps mk) (setS ns)
  rw [set_length B.n1] at a
  have := B.pr
  exact Nat.le_trans a (by omega)
theorem fit_is {ns ks : List Int} {ps : List (Nat × Int)} {mk : Int} {r : List Int} (h : r ∈ fitL ns ks ps mk) : IsS ns r := mem_setS.mp (List.mem_filter.mp h).1
/-- all of a list of truths -/
theorem all_bls {ps : List (Nat × Int)} {r : List Int} : ((ps.map fun p => decide (r.getD p.1 0 = p.2)).all id) = fits ps r := by
  unfold fits
  rw [List.all_map]
  rfl
section
variable {P₀ : Program} {w : World} {K : PySem.W.Frag} {mg : Str → Option Value} {base : Heap} {C_Board C_BoardError C_InvalidBoard C_InvalidSetting C_InvalidSize C_Refused : Addr}
def sp_fits (C_Board : Addr) : DSp := fun ds M Q _ => ∃ (p : Addr) (d : D) (mv mk : Int) (ns ks : List Int) (ps : List (Nat × Int)), ds = [.ref p, d, .int mk] ∧ BdAt C_Board M p mv ns ks ∧ BdOk mv ns ks ∧ SqD M d (prsD ps) ∧ ps.length ≤ 1000 ∧ (∀ a ∈ ps, a.1 < ns.length) ∧ ∀ q M', Les M M' → M q = none → M' q = some (.lst ((fitL ns ks ps mk).map tpD)) → Q (.ref q) M'
end
end K83
set_option linter.all false
namespace K83
open PySem PySem.Spec PyProof.Rows L2 DL
local macro_rules | `(tactic| walk_at "w") => `(tactic| conv => whnf)
abbrev FairB (ns ks : List Int) : Prop := ∀ i, i < ns.length → FairP ns ks i
/-- a refusal of a board that is not fair -/
def RfD (C_Refused : Addr) (M : DHp) (PE : DXK) : Prop := ∀ (i : Nat) r c M', Les M M' → PE ⟨C_Refused, [("at", .tup [.str "twice", .int (i : Nat), tpD r, .int c])]⟩ M'
theorem firstN_all {p : Nat → Bool} : ∀ {n : Nat}, (∀ i, i < n → p i = false) → firstN p n = none
  | 0, _ => rfl
  | n + 1, h => firstN_step (firstN_all fun i hi => h i (by omega)) (h n (by omega))
theorem wp_set {ns r : List Int} (h : IsS ns r) : wpD ns (some (r.map D.int)) = .non := by
  show (if (r.map D.int).length = ns.length then _ else _) = _
  rw [List.length_map, if_pos h.1, firstN_all fun i hi => ?_]
  · rfl
  · have a := h.2 i hi
    have e : (r.map D.int).getD i .non = .int (r.getD i 0) := by
      rw [List.getD_eq_getElem?_getD, List.getElem?_map, List.getD_eq_getElem?_getD, List.getElem?_eq_getElem (by rw [h.1]; exact hi)]
      rfl
    rw [e]
    show (!(decide (0 ≤ r.getD i 0) && decide (r.getD i 0 < ns.getD i 0))) = false
    rw [decide_eq_true a.1, decide_eq_true a.2]
    rfl
theorem kn_ints {K : PySem.W.Frag} {M : DHp} {d : D} {r : List Int} (h : SqD M d (r.map D.int)) : Vw K M d (some (r.map D.int)) := ⟨h, fun x hx => by
  obtain ⟨i, _, rfl⟩ := List.mem_map.mp hx
  exact ⟨.int, rfl, trivial⟩⟩
theorem map_getD {α β : Type} {l : List α} {i : Nat} {f : α → β} {a : α} {d : α} (h : l[i]? = some a) : l.getD i d = a := by rw [List.getD_eq_getElem?_getD, h]; rfl
/-- the first place of a thing -/
theorem first_at {l : List (List Int)} {r : List Int} (h : r ∈ l) : ∃ j : Nat, l[j]? = some r ∧ ∀ m : Nat, m < j → l[m]? ≠ some r := by
  induction l with
  | nil => exact absurd h List.not_mem_nil
  | cons a l ih =>
    by_cases e : a = r
    · exact ⟨0, by rw [e]; rfl, fun m hm => absurd hm (Nat.not_lt_zero _)⟩
    · rcases List.mem_cons.mp h with z | z
      · exact (e z.symm).elim
      · obtain ⟨j, h1, h2⟩ := ih z
        refine ⟨j + 1, by simpa using h1, fun m hm => ?_⟩
        cases m with
        | zero => intro q; exact e (by simpa using q)
        | succ m => intro q; exact h2 m (by omega) (by simpa using q)
theorem shaped_rowsT {l : List (List Int)} : SeqAt.shaped (.tuple (l.map rP)) = true := by
  unfold SeqAt.shaped
  have h : ∀ l : List (List Int), PyData.canLayAll0 (l.map rP) = true ∧ PyData.depthAll (l.map rP) ≤ 20 := fun l => by
    induction l with
    | nil => exact ⟨by simp [PyData.canLayAll0], by simp [PyData.depthAll]⟩
    | cons a l ih =>
      have s := shaped_tup a
      unfold SeqAt.shaped at s
      rw [Bool.and_eq_true] at s
      have dd : (rP a).depth ≤ 19 := by
        have := deep_ints a
        show (PyData.tuple (a.map PyData.int)).depth ≤ 19
        simp only [PyData.depth]
        omega
      refine ⟨by rw [List.map_cons, PyData.canLayAll0, ih.1]; show (rP a).canLay0 && true = true; rw [show (rP a).canLay0 = true from s.1]; rfl, ?_⟩
      rw [List.map_cons]
      simp only [PyData.depthAll]
      omega
  rw [Bool.and_eq_true]
  have := h l
  exact ⟨by simp only [PyData.canLay0]; exact this.1, decide_eq_true (by simp only [PyData.depth]; omega)⟩
theorem shaped_rows {l : List (List Int)} : SeqAt.shaped (.list (l.map rP)) = true := shaped_lt shaped_rowsT
theorem any_rows {l : List (List Int)} {r : List Int} : ((l.map rP).any fun z => PyData.eqv z (rP r)) = decide (r ∈ l) := by
  induction l with
  | nil => rfl
  | cons a l ih =>
    rw [List.map_cons, List.any_cons, ih, eqv_r]
    by_cases h : a = r
    · simp [h]
    · have : ¬ r = a := fun e => h e.symm
      simp [h, this]
section
variable {P₀ : Program} {w : World} {K : PySem.W.Frag} {mg : Str → Option Value} {base : Heap} {C_Board C_BoardError C_InvalidBoard C_InvalidSetting C_InvalidSize C_Refused : Addr}
def sp_cfit (C_Board C_Refused : Addr) : DSp := fun ds M Q PE => ∃ (p : Addr) (d : D) (mv mk : Int) (ns ks : List Int) (ps : List (Nat × Int)), ds = [.ref p, d, .int mk] ∧ BdAt C_Board M p mv ns ks ∧ BdOk mv ns ks ∧ (∀ n ∈ ns, n = mv) ∧ SqD M d (prsD ps) ∧ ps.length ≤ 1000 ∧ (∀ a ∈ ps, a.1 < ns.length) ∧ (FairB ns ks → ∀ M', Les M M' → Q (.int ((fitL ns ks ps mk).length : Nat)) M') ∧ (¬ FairB ns ks → RfD C_Refused M PE)
def sp_nfit (K : PySem.W.Frag) (C_Board C_InvalidSize C_Refused : Addr) : DSp := fun ds M Q PE => ∃ (p : Addr) (d v : D) (mv mk : Int) (ns ks : List Int) (ps : List (Nat × Int)), ds = [.ref p, d, .int mk, v] ∧ BdAt C_Board M p mv ns ks ∧ BdOk mv ns ks ∧ (∀ n ∈ ns, n = mv) ∧ SqD M d (prsD ps) ∧ ps.length ≤ 1000 ∧ (∀ a ∈ ps, a.1 < ns.length) ∧ Kn K M v ∧
  (FairB ns ks → ∀ M', Les M M' → match isB ((fitL ns ks ps mk).length : Nat) v with
    | true => Q (tpD ((fitL ns ks ps mk).getD (toI v).toNat [])) M'
    | false => PE ⟨C_InvalidSize, [("word", .str "number")]⟩ M') ∧ (¬ FairB ns ks → RfD C_Refused M PE)
def fitN (ns ks : List Int) (ps : List (Nat × Int)) (r : List Int) (Q : D → Prop) : Prop := (r ∈ fitL ns ks ps (fV ns ks r) → ∀ j : Nat, (fitL ns ks ps (fV ns ks r))[j]? = some r → Q (.int j)) ∧ (r ∉ fitL ns ks ps (fV ns ks r) → Q .non)
def sp_fnum (C_Board C_Refused : Addr) : DSp := fun ds M Q PE => ∃ (p : Addr) (d v : D) (mv : Int) (ns ks r : List Int) (ps : List (Nat × Int)), ds = [.ref p, d, v] ∧ BdAt C_Board M p mv ns ks ∧ BdOk mv ns ks ∧ (∀ n ∈ ns, n = mv) ∧ SqD M d (prsD ps) ∧ ps.length ≤ 1000 ∧ (∀ a ∈ ps, a.1 < ns.length) ∧ SqD M v (r.map D.int) ∧ IsS ns r ∧
  (FairB ns ks → ∀ M', Les M M' → fitN ns ks ps r fun x => Q x M') ∧ (¬ FairB ns ks → RfD C_Refused M PE)
end
end K83
set_option linter.all false
namespace K83
open PySem PySem.Spec PyProof.Rows L2 DL
local macro_rules | `(tactic| walk_at "w") => `(tactic| conv => whnf)
def knw (ps : List (Nat × Int)) (i : Nat) : List Int := (ps.filter fun p => decide (p.1 = i)).map (·.2)
def alw (m : Nat) (ps : List (Nat × Int)) (i : Nat) : List Int := if knw ps i = [] then (List.range m).map fun (c : Nat) => (c : Int) else knw ps i
def grow (rows : List (List Int)) (L : List Int) : List (List Int) := rows.flatMap fun r => L.map fun c => r ++ [c]
def prL (m : Nat) (ps : List (Nat × Int)) (n : Nat) : List (List Int) := (List.range n).foldl (fun rows i => grow rows (alw m ps i)) [[]]
theorem prL_succ (m : Nat) (ps : List (Nat × Int)) (n : Nat) : prL m ps (n + 1) = grow (prL m ps n) (alw m ps n) := by
  unfold prL
  rw [List.range_succ, List.foldl_append]
  rfl
/-- told parts of a board of n parts -/
structure PsOk (m n : Nat) (ps : List (Nat × Int)) : Prop where
  nd : (ps.map (·.1)).Nodup
  lt : ∀ p ∈ ps, p.1 < n
  rng : ∀ p ∈ ps, 0 ≤ p.2 ∧ p.2 < m
  len : ps.length ≤ n
theorem knw_one {ps : List (Nat × Int)} (nd : (ps.map (·.1)).Nodup) (i : Nat) : knw ps i = [] ∧ (∀ p ∈ ps, p.1 ≠ i) ∨ ∃ c, knw ps i = [c] ∧ (i, c) ∈ ps ∧ ∀ p ∈ ps, p.1 = i → p.2 = c := by
  induction ps with
  | nil => exact .inl ⟨rfl, fun p h => absurd h List.not_mem_nil⟩
  | cons p ps ih =>
    obtain ⟨n1, n2⟩ := List.nodup_cons.mp nd
    by_cases h : p.1 = i
    · right
      have none : ∀ q ∈ ps, q.1 ≠ i := fun q hq e => n1 (List.mem_map.mpr ⟨q, hq, e.trans h.symm⟩)
      have e : ps.filter (fun p => decide (p.1 = i)) = [] := List.filter_eq_nil_iff.mpr fun q hq => by simpa using none q hq
      refine ⟨p.2, ?_, ?_, fun q hq e2 => ?_⟩
      · unfold knw
        rw [List.filter_cons_of_pos (by simpa using h), e]
        rfl
      · rw [← h]; exact List.mem_cons_self
      · rcases List.mem_cons.mp hq with z | z
        · rw [z]
        · exact (none q z e2).elim
    · have e : knw (p :: ps) i = knw ps i := by
        unfold knw
        rw [List.filter_cons_of_neg (by simpa using h)]
      rw [e]
      rcases ih n2 with ⟨a, b⟩ | ⟨c, a, b, d⟩
      · exact .inl ⟨a, fun q hq => (List.mem_cons.mp hq).elim (fun z => z ▸ h) (b q)⟩
      · exact .inr ⟨c, a, List.mem_cons_of_mem _ b, fun q hq e2 => (List.mem_cons.mp hq).elim (fun z => (h (z ▸ e2)).elim) fun z => d q z e2⟩
/-- what the parts before k tell -/
def fitsP (ps : List (Nat × Int)) (k : Nat) (r : List Int) : Bool := ps.all fun p => !decide (p.1 < k) || decide (r.getD p.1 0 = p.2)
theorem filter_range_one {m : Nat} {c : Int} (c0 : 0 ≤ c) (c1 : c < m) : ((List.range m).map fun (c : Nat) => (c : Int)).filter (fun x => decide (x = c)) = [c] := by
  obtain ⟨j, rfl⟩ : ∃ j : Nat, c = j := ⟨c.toNat, by omega⟩
  rw [List.filter_map]
  have e : ∀ m : Nat, (List.range m).filter ((fun x => decide (x = (j : Int))) ∘ fun (c : Nat) => (c : Int)) = if j < m then [j] else [] := fun m => by
    induction m with
    | zero => rfl
    | succ m ih =>
      rw [List.range_succ, List.filter_append, ih]
      by_cases h : j < m
      · rw [if_pos h, if_pos (by omega), List.filter_cons_of_neg (by simp; omega)]
        rfl
      · rw [if_neg h]
        by_cases e : j = m
        · subst e
          rw [if_pos (by omega), List.filter_cons_of_pos (by simp)]
          rfl
        · rw [if_neg (by omega), List.filter_cons_of_neg (by simp; omega)]
          rfl
  rw [e, if_pos (by omega)]
  rfl
theorem prL_filter {m n : Nat} {ps : List (Nat × Int)} (h : PsOk m n ps) : ∀ k, k ≤ n → prL m ps k = (setS (List.replicate k (m : Int))).filter (fitsP ps k)
  | 0, _ => by
    have e : fitsP ps 0 [] = true := by
      unfold fitsP
      rw [List.all_eq_true]
      intro p _
      simp
    show [[]] = [[]].filter (fitsP ps 0)
    rw [List.filter_cons_of_pos e]
    rfl
  | k + 1, hk => by
    rw [prL_succ, prL_filter h k (by omega), set_rep]
    unfold grow setR
    rw [List.filter_flatMap]
    have key : ∀ r : List Int, r.length = k → (((List.range m).map fun (c : Nat) => r ++ [(c : Int)]).filter (fitsP ps (k + 1))) = if fitsP ps k r then (alw m ps k).map (fun c => r ++ [c]) else [] := fun r lr => by
      have split : ∀ c : Int, fitsP ps (k + 1) (r ++ [c]) = (fitsP ps k r && ps.all fun p => !decide (p.1 = k) || decide (c = p.2)) := fun c => by
        unfold fitsP
        rw [Bool.eq_iff_iff, Bool.and_eq_true, List.all_eq_true, List.all_eq_true, List.all_eq_true]
        constructor
        · intro a
          refine ⟨fun p hp => ?_, fun p hp => ?_⟩
          · have := a p hp
            by_cases q : p.1 < k
            · rw [getD_app_l (by omega)] at this
              simp only [q, show p.1 < k + 1 by omega, decide_true, Bool.not_true, Bool.false_or] at this ⊢
              exact this
            · simp [q]
          · have := a p hp
            by_cases q : p.1 = k
            · rw [q, ← lr, getD_app_r, lr] at this
              simp only [q, show k < k + 1 by omega, decide_true, Bool.not_true, Bool.false_or] at this ⊢
              exact this
            · simp [q]
        · rintro ⟨a, b⟩ p hp
          by_cases q : p.1 < k
          · have := a p hp
            rw [getD_app_l (by omega)]
            simp only [q, show p.1 < k + 1 by omega, decide_true, Bool.not_true, Bool.false_or] at this ⊢
            exact this
          · by_cases q2 : p.1 = k
            · have := b p hp
              rw [q2, ← lr, getD_app_r, lr]
              simp only [q2, show k < k + 1 by omega, decide_true, Bool.not_true, Bool.false_or] at this ⊢
              exact this
            · simp [show ¬ p.1 < k + 1 by omega]
      rw [List.filter_map]
      have e2 : (fitsP ps (k + 1)) ∘ (fun (c : Nat) => r ++ [(c : Int)]) = fun (c : Nat) => (fitsP ps k r && ps.all fun p => !decide (p.1 = k) || decide ((c : Int) = p.2)) := by
        funext c
        exact split c
      rw [e2]
      cases hf : fitsP ps k r with
      | false => simp
      | true =>
        rw [if_pos rfl]
        simp only [Bool.true_and]
        rcases knw_one h.nd k with ⟨a, b⟩ | ⟨c, a, b, d⟩
        · have e3 : alw m ps k = (List.range m).map fun (c : Nat) => (c : Int) := by unfold alw; rw [if_pos a]
          rw [e3, List.map_map]
          have e4 : ∀ c : Nat, (ps.all fun p => !decide (p.1 = k) || decide ((c : Int) = p.2)) = true := fun c => by
            rw [List.all_eq_true]
            intro p hp
            simp [b p hp]
          rw [List.filter_eq_self.mpr fun c _ => e4 c]
          rfl
        · have e3 : alw m ps k = [c] := by unfold alw; rw [a, if_neg (by simp)]
          have e4 : (fun (x : Nat) => (ps.all fun p => !decide (p.1 = k) || decide ((x : Int) = p.2))) = fun (x : Nat) => decide ((x : Int) = c) := by
            funext x
            rw [Bool.eq_iff_iff, List.all_eq_true, decide_eq_true_iff]
            constructor
            · intro q
              have := q _ b
              simpa using this
            · intro q p hp
              by_cases z : p.1 = k
              · simp [d p hp z, q]
              · simp [z]
          rw [e3, e4]
          have rc := h.rng _ b
          have fr := filter_range_one (m := m) rc.1 rc.2
          rw [List.filter_map] at fr
          have := congrArg (List.map fun c => r ++ [c]) fr
          rw [List.map_map] at this
          exact this
    have ext : ∀ l : List (List Int), (∀ r ∈ l, r.length = k) → (l.filter (fitsP ps k)).flatMap (fun r => (alw m ps k).map fun c => r ++ [c]) = l.flatMap fun r => (((List.range (m : Int).toNat).map fun (c : Nat) => r ++ [(c : Int)]).filter (fitsP ps (k + 1))) := fun l => by
      induction l with
      | nil => intro _; rfl
      | cons r l ih =>
        intro hl
        have ih := ih fun s hs => hl s (List.mem_cons_of_mem _ hs)
        rw [List.flatMap_cons, Int.toNat_natCast, key r (hl r List.mem_cons_self)]
        rw [Int.toNat_natCast] at ih
        cases hf : fitsP ps k r with
        | true => rw [List.filter_cons_of_pos hf, List.flatMap_cons, if_pos rfl, ih]
        | false => rw [List.filter_cons_of_neg (by simp [hf]), if_neg Bool.false_ne_true, List.nil_append, ih]
    exact ext _ fun r hr => by rw [set_len _ r hr, List.length_replicate]
theorem fitsP_all {m n : Nat} {ps : List (Nat × Int)} (h : PsOk m n ps) (r : List Int) : fitsP ps n r = fits ps r := by
  unfold fitsP fits
  rw [Bool.eq_iff_iff, List.all_eq_true, List.all_eq_true]
  constructor <;> intro a p hp <;> have := a p hp <;> simpa [h.lt p hp] using this
theorem prL_all {m n : Nat} {ps : List (Nat × Int)} (h : PsOk m n ps) : prL m ps n = (setS (List.replicate n (m : Int))).filter (fits ps) := by
  rw [prL_filter h n (Nat.le_refl _)]
  refine List.filter_congr fun r _ => fitsP_all h r
theorem prL_len {m n : Nat} {ps : List (Nat × Int)} (h : PsOk m n ps) {k : Nat} (hk : k ≤ n) : (prL m ps k).length ≤ m ^ k := by
  rw [prL_filter h k hk, ← len_rep m k]
  exact List.length_filter_le _ _
theorem prL_is {m n : Nat} {ps : List (Nat × Int)} (h : PsOk m n ps) {k : Nat} (hk : k ≤ n) {r : List Int} (hr : r ∈ prL m ps k) : IsS (List.replicate k (m : Int)) r := by
  rw [prL_filter h k hk] at hr
  exact mem_setS.mp (List.mem_filter.mp hr).1
theorem numL_eq {m n : Nat} {r : List Int} (h : r.length = n) : numL m r = numI (List.replicate n (m : Int)) r := by
  subst h
  unfold numL numI
  generalize (0 : Int) = a
  induction r generalizing a with
  | nil => rfl
  | cons c r ih =>
    rw [List.length_cons, List.replicate_succ, List.zip_cons_cons, List.foldl_cons, List.foldl_cons]
    exact ih _
end K83
set_option linter.all false
namespace K83
open PySem PySem.Spec PyProof.Rows L2 DL
local macro_rules | `(tactic| walk_at "w") => `(tactic| conv => whnf)
theorem grow_take {rows : List (List Int)} {L : List Int} {j : Nat} {r : List Int} (h : rows[j]? = some r) : grow (rows.take (j + 1)) L = grow (rows.take j) L ++ L.map fun c => r ++ [c] := by
  unfold grow
  rw [List.take_add_one, h, List.flatMap_append]
  simp
theorem grow_le {rows : List (List Int)} {L : List Int} {j : Nat} {r : List Int} (h : rows[j]? = some r) : (grow (rows.take j) L).length + L.length ≤ (grow rows L).length := by
  have e : grow rows L = grow (rows.take (j + 1)) L ++ grow (rows.drop (j + 1)) L := by
    unfold grow
    rw [← List.flatMap_append, List.take_append_drop]
  rw [e, List.length_append, grow_take h, List.length_append, List.length_map]
  omega
theorem alw_len {m : Nat} {ps : List (Nat × Int)} (nd : (ps.map (·.1)).Nodup) (i : Nat) : (alw m ps i).length ≤ m + 1 := by
  unfold alw
  rcases knw_one nd i with ⟨a, _⟩ | ⟨c, a, _⟩
  · rw [if_pos a]; simp
  · rw [a, if_neg (by simp)]; simp
section
variable {P₀ : Program} {w : World} {K : PySem.W.Frag} {mg : Str → Option Value} {base : Heap}
def sp_lfit : DSp := fun ds M Q _ => ∃ (a b : Addr) (m n : Nat) (mk : Int) (ks : List Int) (ps : List (Nat × Int)), ds = [.int m, .int n, .ref a, .ref b, .int mk] ∧ M a = some (.lst (ks.map D.int)) ∧ M b = some (.lst (prsD ps)) ∧ m ≤ 8 ∧ n ≤ 4 ∧ ks.length = m ^ n ∧ PsOk m n ps ∧
  ∀ q M', Les M M' → M q = none → M' q = some (.lst ((fitL (List.replicate n (m : Int)) ks ps mk).map tpD)) → Q (.ref q) M'
end
end K83
set_option linter.all false
namespace K83
open PySem PySem.Spec PyProof.Rows L2 DL
local macro_rules | `(tactic| walk_at "w") => `(tactic| conv => whnf)
theorem prod_rep (n : Nat) (m : Nat) : prodI (List.replicate n (m : Int)) = ((m ^ n : Nat) : Int) := by
  induction n with
  | zero => rfl
  | succ n ih => rw [List.replicate_succ, prod_cons, ih, Nat.pow_succ, Nat.mul_comm]; simp
theorem fl_rep (n : Nat) (m : Int) : (List.replicate (n : Int).toNat [D.int m]).flatten = (List.replicate n m).map D.int := by
  rw [List.map_replicate, Int.toNat_natCast]
  induction n with
  | zero => rfl
  | succ n ih => rw [List.replicate_succ, List.flatten_cons, ih, List.replicate_succ]; rfl
/-- the marks of a fair board, or of any -/
structure Mk (m n : Nat) (ks : List Int) : Prop where
  m2 : 2 ≤ m
  m8 : m ≤ 8
  n1 : 1 ≤ n
  n4 : n ≤ 4
  sm : m ^ n ≤ 512
  len : ks.length = m ^ n
  rng : ∀ v ∈ ks, 0 ≤ v ∧ v < m
theorem Mk.bd {m n : Nat} {ks : List Int} (h : Mk m n ks) : BdOk m (List.replicate n (m : Int)) ks := by
  have := h.m2
  have := h.m8
  have := h.n1
  have := h.n4
  have := h.sm
  exact ⟨by rw [List.length_replicate]; omega, by rw [List.length_replicate]; omega, fun x hx => by have := (List.mem_replicate.mp hx).2; omega, fun x hx => by have := (List.mem_replicate.mp hx).2; exact ⟨by omega, by omega⟩, by rw [prod_rep]; omega, by rw [prod_rep, Int.toNat_natCast]; exact h.len⟩
theorem ws_rep {ns : List Int} (l1 : 1 ≤ ns.length) (l2 : ns.length ≤ 8) (h : ∀ n ∈ ns, 1 ≤ n) : wsD (some (ns.map D.int)) = .non := by
  show (if 1 ≤ (ns.map D.int).length ∧ (ns.map D.int).length ≤ 8 then _ else _) = _
  rw [List.length_map, if_pos ⟨l1, l2⟩, firstN_all fun i hi => ?_]
  · rfl
  · have e : (ns.map D.int).getD i .non = .int (ns.getD i 0) := by
      rw [List.getD_eq_getElem?_getD, List.getElem?_map, List.getD_eq_getElem?_getD, List.getElem?_eq_getElem hi]
      rfl
    rw [e]
    have := h _ (getD_mem2 hi)
    show (!decide (1 ≤ ns.getD i 0)) = false
    rw [decide_eq_true this]
    rfl
theorem Mk.dd {m n : Nat} {ks : List Int} (h : Mk m n ks) : dueD (.int m) (some ((List.replicate n (m : Int)).map D.int)) (some (ks.map D.int)) = none := by
  have b := h.bd
  have m2 := h.m2
  have m8 := h.m8
  have hb : isBt 2 8 (.int (m : Int)) = true := by
    show (decide ((2 : Int) ≤ m) && decide ((m : Int) ≤ 8)) = true
    rw [decide_eq_true (by omega), decide_eq_true (by omega)]
    rfl
  rw [dd_in hb (ws_rep b.l1 b.l2 b.n1), if_pos b.pr, wp_set]
  rw [prod_rep, Int.toNat_natCast]
  refine isS_rep.mpr ⟨h.len, fun i hi => ?_⟩
  exact h.rng _ (getD_mem2 (by rw [h.len]; exact hi))
theorem init_mk {K : PySem.W.Frag} {C_Board C_InvalidBoard C_InvalidSize p : Addr} {M : DHp} {m n : Nat} {ks : List Int} {d e : D} {Q : DK} {PE : DXK} (h : Mk m n ks) (hp : M p = some (.ins C_Board [])) (hd : SqD M d ((List.replicate n (m : Int)).map D.int)) (he : SqD M e (ks.map D.int))
    (q : ∀ M', M' = upM M p (.ins C_Board [("many", .int m), ("sizes", .tup ((List.replicate n (m : Int)).map D.int)), ("marks", .tup (ks.map D.int)), ("steps", .tup ((stepsI (List.replicate n (m : Int))).map D.int))]) → Q .non M') : sp_init K C_Board C_InvalidBoard C_InvalidSize [.ref p, .int m, d, e] M Q PE := by
  refine ⟨p, .int m, d, e, _, _, rfl, hp, ⟨.int, rfl, trivial⟩, kn_ints hd, kn_ints he, fun xs hx x hm => ?_, ?_⟩
  · cases hx
    obtain ⟨y, hy, e⟩ := List.mem_map.mp hm
    cases e
    exact h.bd.sm _ hy
  · rw [h.dd]
    refine q _ ?_
    unfold bdF
    simp only [Option.getD_some, map_toI]
/-- one mark turned to the next -/
def spoil (m : Nat) (ks : List Int) (at_ : Nat) : List Int := ks.zipIdx.map fun p => if p.2 = at_ then (p.1 + 1) % (m : Int) else p.1
theorem spoil_get {m : Nat} {ks : List Int} {a i : Nat} {v : Int} (h : ks[i]? = some v) : (spoil m ks a)[i]? = some (if i = a then (v + 1) % (m : Int) else v) := by
  unfold spoil
  rw [List.getElem?_map, List.getElem?_zipIdx, h]
  simp
theorem spoil_len {m : Nat} {ks : List Int} {a : Nat} : (spoil m ks a).length = ks.length := by simp [spoil]
theorem Mk.spoil {m n : Nat} {ks : List Int} {a : Nat} (h : Mk m n ks) : Mk m n (spoil m ks a) := by
  refine ⟨h.m2, h.m8, h.n1, h.n4, h.sm, by rw [spoil_len]; exact h.len, fun v hv => ?_⟩
  obtain ⟨i, hi⟩ := List.getElem?_of_mem hv
  have hl := (List.getElem?_eq_some_iff.mp hi).1
  rw [spoil_len] at hl
  rw [spoil_get (List.getElem?_eq_getElem hl)] at hi
  have hi := Option.some.inj hi
  have r := h.rng _ (List.getElem_mem hl)
  have m2 := h.m2
  rw [← hi]
  split
  · exact ⟨Int.emod_nonneg _ (by omega), Int.emod_lt_of_pos _ (by omega)⟩
  · exact r
section
variable {P₀ : Program} {w : World} {K : PySem.W.Frag} {mg : Str → Option Value} {base : Heap} {C_Board C_BoardError C_InvalidBoard C_InvalidSetting C_InvalidSize C_Refused : Addr}
abbrev s__law_spoilt : Stmt := top 56
abbrev N__law_spoilt : List Str := ["deal", "many", "size", "marks", "at", "spoilt", "k", "mark"]
abbrev P__law_spoilt : List Str := ["deal", "many", "size", "marks"]
theorem sc__law_spoilt : FnScope N__law_spoilt P__law_spoilt (defScope s__law_spoilt) := ⟨rfl, rfl, rfl, by decide +kernel, rfl, by decide +kernel, by decide +kernel⟩
def sp_lspoil (C_Board : Addr) : DSp := fun ds M Q _ => ∃ (p q b : Addr) (m n : Nat) (ks : List Int) (N : DHp), ds = [.ref p, .int m, .int n, .ref b] ∧ Rs N M p q ∧ N b = some (.lst (ks.map D.int)) ∧ Mk m n ks ∧ ∀ (e : Addr) (a : Nat) (N' M' : DHp), a < ks.length → Les N N' → N e = none → BdAt C_Board N' e m (List.replicate n (m : Int)) (spoil m ks a) → Rs N' M' p q → Q (.ref e) M'
theorem ok_lspoil {f : Addr} {fd : FuncData} (Dd : Df K mg "_law_spoilt" s__law_spoilt f fd P__law_spoilt) (Z : Zs mg) (T : Bo P₀ w K mg base C_Board C_BoardError C_InvalidBoard C_InvalidSetting C_InvalidSize) (G__law_draw : Cal P₀ w K mg base "_law_draw" 1 sp_draw) : Cal P₀ w K mg base "_law_spoilt" 7 (sp_lspoil C_Board) := by
  refine Dd.cal sc__law_spoilt (fun ds M P PE h => ?_) (fun cdv A outer s H E ds M P PE hr tk h => ⟨_, (dss_cons (ds_set 4 sc__law_spoilt.nd (de_call G__law_draw (hr.mono (by decide)) tk (da_cons (de_var 0) (da_cons (de_fnB cr_len Z.len (da_cons (de_var 3) da_nil)) da_nil))))
    (dss_cons (ds_setLc 5 sc__law_spoilt.nd (own := [("k", 6), ("mark", 7)]) (di_en Z.enum (de_var 3)) (blkOk_by (N := N__law_spoilt) (sc := defScope s__law_spoilt) (by decide +kernel)) (ct_tup (ct_cons (ct_name 6) (ct_cons (ct_name 7) ct_nil)))
      (fun _ _ _ _ _ => (pg_TL (n := 2) rfl (pgs_cons (pg_name (i := 6) sc__law_spoilt.nd rfl (.inl rfl)) (pgs_cons (pg_name (i := 7) sc__law_spoilt.nd rfl (.inl rfl)) pgs_nil)))) (fun _ _ _ _ _ => dts_nil) (fun _ _ _ _ _ => (de_ite (dt_cmp (or_eq hr.r.units) (de_var 6) (de_var 4)) (de_op or_mod (de_fnT cr_int Z.int (da_cons (de_op or_add (de_var 7) de_int) da_nil)) (de_var 1)) (de_var 7))))
    (dss_one (ds_ret (de_make T.k_Board (hr.mono (by decide)) tk (da_cons (de_var 1) (da_cons (de_op or_mul (de_lst (da_cons (de_var 1) da_nil)) (de_var 2)) (da_cons (de_var 5) da_nil)))))))), ?_⟩)
  · obtain ⟨_, _, _, _, _, _, _, rfl, _⟩ := h
    rfl
  · obtain ⟨p, q, b, m, n, ks, N, rfl, R, hb, K1, qq⟩ := h
    have sm := K1.sm
    have kl := K1.len
    have m2 := K1.m2
    have m8 := K1.m8
    have n1 := K1.n1
    have n4 := K1.n4
    have pos : 1 ≤ m ^ n := Nat.one_le_pow _ _ (by omega)
    walk_at "w"
    refine .inl ⟨_, .ref (R.l _ _ hb), ?_⟩
    refine ⟨p, q, _, N, rfl, R, by simp; omega, by simp; omega, fun r M1 R1 r1 r2 => ?_⟩
    obtain ⟨a, rfl⟩ : ∃ a : Nat, r = a := ⟨r.toNat, by omega⟩
    rw [List.length_map] at r2
    have ra : a < ks.length := by omega
    walk_at "w"
    refine ⟨_, .ref (R1.l _ _ hb), fun i acc M2 => M2 = M1 ∧ acc = ((spoil m ks a).take i).map D.int, ⟨_, .refl _, rfl, by simp⟩, fun i acc M2 _ ⟨h, _⟩ => h ▸ .ref (R1.l _ _ hb), ?_, ?_⟩
    · rintro i x acc M2 hx ⟨rfl, rfl⟩
      obtain ⟨d, h1, rfl⟩ := en_at hx
      obtain ⟨v, h2, rfl⟩ := int_at h1
      have hi := (List.getElem?_eq_some_iff.mp h2).1
      have sg := spoil_get (m := m) (a := a) h2
      have lt : ((spoil m ks a).take i).length ≤ 1000 := by
        have := List.length_take_le i (spoil m ks a)
        rw [List.length_take] at *
        rw [spoil_len] at *
        omega
      refine ⟨rfl, ?_⟩
      walk_at "w"
      refine ifB_mk (fun h3 => ?_) (fun h3 => ?_)
      · have h3 : i = a := by have := of_decide_eq_true h3; omega
        walk_at "w"
        refine ⟨by omega, size_ok (by rw [List.length_map]; omega), _, .refl _, rfl, ?_⟩
        rw [List.take_add_one, sg, if_pos h3, List.map_append]
        rfl
      · have h3 : ¬ i = a := by have := of_decide_eq_false h3; omega
        refine ⟨size_ok (by rw [List.length_map]; omega), _, .refl _, rfl, ?_⟩
        rw [List.take_add_one, sg, if_neg h3, List.map_append]
        rfl
    · rintro acc M2 ⟨rfl, rfl⟩ c hc
      have tk : (spoil m ks a).take (enD (ks.map D.int)).length = spoil m ks a := List.take_of_length_le (by rw [spoil_len]; simp [enD])
      rw [tk]
      have R3 := R1.new (o := .lst ((spoil m ks a).map D.int)) hc
      have L3 := R1.newl (o := .lst ((spoil m ks a).map D.int)) hc
      have f3 : upM N c (.lst ((spoil m ks a).map D.int)) c = some (.lst ((spoil m ks a).map D.int)) := upM_same
      generalize upM N c (.lst ((spoil m ks a).map D.int)) = N3 at R3 L3 f3
      generalize upM M2 c (.lst ((spoil m ks a).map D.int)) = M3 at R3 ⊢
      walk_at "w"
      refine ⟨(by show 1 ≤ sizeLine; decide), fun g hg => ?_⟩
      have R4 := R3.new (o := .lst [.int m]) hg
      have L4 := R3.newl (o := .lst [.int m]) hg
      have f4 : upM N3 g (.lst [.int m]) g = some (.lst [.int m]) := upM_same
      have f3' := L4 _ _ f3
      replace L4 := L3.trans L4
      generalize upM N3 g (.lst [.int m]) = N4 at R4 L4 f4 f3'
      generalize upM M3 g (.lst [.int m]) = M4 at R4 ⊢
      walk_at "w"
      refine ⟨_, R4.l _ _ f4, ⟨by omega, by omega, ?_⟩, fun h hh => ?_⟩
      · show 1 * _ ≤ sizeLine
        exact Nat.le_of_lt (size_ok (by omega))
      have fl := fl_rep n (m : Int)
      rw [fl]
      have R5 := R4.new (o := .lst ((List.replicate n (m : Int)).map D.int)) hh
      have L5 := R4.newl (o := .lst ((List.replicate n (m : Int)).map D.int)) hh
      have f5 : upM N4 h (.lst ((List.replicate n (m : Int)).map D.int)) h = some (.lst ((List.replicate n (m : Int)).map D.int)) := upM_same
      have f3'' := L5 _ _ f3'
      replace L5 := L4.trans L5
      generalize upM N4 h (.lst ((List.replicate n (m : Int)).map D.int)) = N5 at R5 L5 f5 f3''
      generalize upM M4 h (.lst ((List.replicate n (m : Int)).map D.int)) = M5 at R5 ⊢
      walk_at "w"
      intro e he
      have R6 := R5.new (o := .ins C_Board []) he
      have L6 := R5.newl (o := .ins C_Board []) he
      have f6 : upM N5 e (.ins C_Board []) e = some (.ins C_Board []) := upM_same
      have ne := (L5.free (R5.nep he).2.2)
      have f7 := L6 _ _ f5
      have f8 := L6 _ _ f3''
      have n5 := (R5.nep he).2.2
      have R6l : Rs (upM N5 e (.ins C_Board [])) (upM M5 e (.ins C_Board [])) p q := R6
      refine init_mk K1.spoil (R6.l _ _ f6) (.ref (R6.l _ _ f7)) (.ref (R6.l _ _ f8)) fun M' eM => ⟨rfl, ?_⟩
      subst eM
      have R7 := R6.put (o := .ins C_Board [("many", .int m), ("sizes", .tup ((List.replicate n (m : Int)).map D.int)), ("marks", .tup ((spoil m ks a).map D.int)), ("steps", .tup ((stepsI (List.replicate n (m : Int))).map D.int))]) f6
      rw [upM_two, upM_two] at R7
      rw [upM_two]
      exact Lk.of (qq e a _ _ ra (fun x o hx => by rw [upM_ne (fun z => by rw [z, ne] at hx; cases hx)]; exact L5 _ _ hx) ne upM_same R7)
end
end K83
set_option linter.all false
namespace K83
open PySem PySem.Spec PyProof.Rows L2 DL
local macro_rules | `(tactic| walk_at "w") => `(tactic| conv => whnf)
/-- behind the call of what was handed over -/
def behV (N : List Str) (P : DK) (g : Addr) : DK := fun _ M1 => sRet (dC (.bl false)) { nx := fun x M' => Lk P D.non M', rt := Lk P } (startD N [D.ref g]) M1
def behX (K : PySem.W.Frag) (C : Addr) (N : List Str) (ts : Addr → Addr → XD → DTS) (P : DK) (PE : DXK) (g : Addr) : DXK := fun x M2 => wTryAs K C (fun c => c = C) 1 ts (Lx PE) { nx := sRet (dC (.bl false)) { nx := fun x M' => Lk P D.non M', rt := Lk P }, rt := Lk P } x (startD N [D.ref g]) M2
/-- try: work() except C as e: .. ; return False -/
def TT_ex (K : PySem.W.Frag) (C : Addr) (N : List Str) (ts : Addr → Addr → XD → DTS) : DTh → DHp → DK → DXK → Prop := fun th M P PE => ∀ g, th M (behV N P g) (behX K C N ts P PE g)
section
variable {P₀ : Program} {w : World} {K : PySem.W.Frag} {mg : Str → Option Value} {base : Heap} {C_Board C_BoardError C_InvalidBoard C_InvalidSetting C_InvalidSize C_Refused : Addr}
abbrev s__law_is_refused : Stmt := top 55
abbrev N__law_is_refused : List Str := ["work", "e"]
abbrev P__law_is_refused : List Str := ["work"]
theorem sc__law_is_refused : FnScope N__law_is_refused P__law_is_refused (defScope s__law_is_refused) := ⟨rfl, rfl, rfl, by decide +kernel, rfl, by decide +kernel, by decide +kernel⟩
abbrev ts_ref : Addr → Addr → XD → DTS := fun a dd y => sRet (dCmp eqD (dOp ixD (dXf a dd (Str.ofString "at") (dVar 1)) (dC (D.int 0))) (dC (D.str (Str.ofString "twice"))))
theorem ok_isref {f : Addr} {fd : FuncData} (Dd : Df K mg "_law_is_refused" s__law_is_refused f fd P__law_is_refused) (T : Tr P₀ w K mg base C_Refused) (k : Nat) : CalT P₀ w K mg base "_law_is_refused" k (TT_ex K C_Refused N__law_is_refused ts_ref) := by
  refine ⟨f, fd, s__law_is_refused, N__law_is_refused, "work", Dd.F, Dd.g, Dd.b, sc__law_is_refused, rfl, .inl rfl, by decide, by decide, fun cdv A outer s H E M g c' q th P PE hr tk act hc h => ⟨_, (dss_cons (ds_tryAs (fun c => c = C_Refused) 1 sc__law_is_refused.nd rfl rfl (names_g T.x_Refused.g) tk (fun pn xe W B tk' pass => (dss_one (ds_expr (act pn xe W B _ _ tk')))) (fun a oe dd pn y hp hz hf => (dss_one (ds_ret (de_cmp (or_eq hr.r.units) (de_ix (de_xf (T.x_Refused.xf hp) (T.x_Refused.nf hp) hz hf (de_var 1)) de_int) de_str)))))
    (dss_one (ds_ret de_bl))), ?_⟩⟩
  walk_at "w"
  exact ⟨rfl, hc, h g⟩
theorem ref_hit {M : DHp} {P : DK} {PE : DXK} {g : Addr} {xs : List D} (T : Tr P₀ w K mg base C_Refused) (q : ∀ M', Les M M' → P (.bl true) M') : behX K C_Refused N__law_is_refused ts_ref P PE g ⟨C_Refused, [("at", .tup (.str "twice" :: xs))]⟩ M := by
  refine ⟨true, T.ex_RR, rfl, fun a dd hd => ?_⟩
  have L := les_new (o := .xd [("at", .tup (.str "twice" :: xs))]) hd
  walk_at "w"
  refine ⟨_, _, rfl, upM_same, rfl, ?_⟩
  refine .inl ⟨_, 0, _, .tup, rfl, (show atI _ ((0 : Nat) : Int) = _ from atI_nat rfl), ?_⟩
  exact Lk.of (q _ L)
abbrev ts_bey : Addr → Addr → XD → DTS := fun a dd y => sRet (dCmp eqD (dXf a dd (Str.ofString "word") (dVar 1)) (dC (D.str (Str.ofString "number"))))
end
end K83
set_option linter.all false
namespace K83
open PySem PySem.Spec PyProof.Rows L2 DL
theorem nodup_le {α : Type} [BEq α] [LawfulBEq α] : ∀ {l l' : List α}, l.Nodup → (∀ x ∈ l, x ∈ l') → l.length ≤ l'.length
  | [], _, _, _ => Nat.zero_le _
  | a :: l, l', nd, s => by
    obtain ⟨n1, n2⟩ := List.nodup_cons.mp nd
    have h := nodup_le (l' := l'.erase a) n2 fun x hx => by
      have ne : x ≠ a := fun e => n1 (e ▸ hx)
      exact (List.mem_erase_of_ne ne).mpr (s x (List.mem_cons_of_mem _ hx))
    have ha := s a List.mem_cons_self
    rw [List.length_erase_of_mem ha] at h
    have := List.length_pos_of_mem ha
    rw [List.length_cons]
    omega
theorem nodup_len {α : Type} [BEq α] [LawfulBEq α] {l l' : List α} (a : l.Nodup) (b : l'.Nodup) (h : ∀ x, x ∈ l ↔ x ∈ l') : l.length = l'.length :=
  Nat.le_antisymm (nodup_le a fun x hx => (h x).mp hx) (nodup_le b fun x hx => (h x).mpr hx)
theorem nodup_cast (m : Nat) : ((List.range m).map fun (c : Nat) => (c : Int)).Nodup := List.Pairwise.map _ (fun a b n z => n (Int.ofNat.inj z)) List.nodup_range
/-- one to one is onto -/
theorem inj_sur {m : Nat} {g : Int → Int} (rng : ∀ c : Int, 0 ≤ c → c < m → 0 ≤ g c ∧ g c < m) (inj : ∀ c d : Int, 0 ≤ c → c < m → 0 ≤ d → d < m → g c = g d → c = d) {v : Int} (v0 : 0 ≤ v) (v1 : v < m) : ∃ c : Int, 0 ≤ c ∧ c < m ∧ g c = v := by
  by_cases h : ∃ c : Int, 0 ≤ c ∧ c < m ∧ g c = v
  · exact h
  · exfalso
    have mem : ∀ x, x ∈ ((List.range m).map fun (c : Nat) => (c : Int)).map g → ∃ c : Int, 0 ≤ c ∧ c < m ∧ g c = x := fun x hx => by
      obtain ⟨c, hc, e⟩ := List.mem_map.mp hx
      obtain ⟨k, hk, rfl⟩ := List.mem_map.mp hc
      have := List.mem_range.mp hk
      exact ⟨k, by omega, by omega, e⟩
    have nd : (v :: ((List.range m).map fun (c : Nat) => (c : Int)).map g).Nodup := by
      refine List.nodup_cons.mpr ⟨fun hv => h (mem v hv), ?_⟩
      rw [List.map_map]
      refine (List.pairwise_map).mpr (List.Pairwise.imp_of_mem ?_ (List.nodup_range (n := m)))
      intro a b ha hb ne e
      have ha := List.mem_range.mp ha
      have hb := List.mem_range.mp hb
      have := inj (a : Int) (b : Int) (by omega) (by omega) (by omega) (by omega) e
      omega
    have := nodup_le (l' := (List.range m).map fun (c : Nat) => (c : Int)) nd fun x hx => by
      rcases List.mem_cons.mp hx with rfl | hx
      · exact List.mem_map.mpr ⟨x.toNat, List.mem_range.mpr (by omega), by omega⟩
      · obtain ⟨c, c0, c1, rfl⟩ := mem x hx
        have r := rng c c0 c1
        exact List.mem_map.mpr ⟨(g c).toNat, List.mem_range.mpr (by omega), by omega⟩
    simp at this
    omega
theorem setS_nodup {ns : List Int} (h : ∀ n ∈ ns, 1 ≤ n) : (setS ns).Nodup := by
  have e := num_all ns h
  have nd := nodup_cast (prodI ns).toNat
  rw [← e] at nd
  exact (List.pairwise_map.mp nd).imp fun h e => h (by rw [e])
theorem set_set {r : List Int} {i : Nat} {c d : Int} : (r.set i c).set i d = r.set i d := by simp
theorem set_self {r : List Int} {i : Nat} (h : i < r.length) : r.set i (r.getD i 0) = r := by
  refine list_eq (by simp) fun j hj => ?_
  by_cases e : j = i
  · subst e; rw [getD_set_self hj]
  · rw [getD_set_ne (Ne.symm e)]
/-- a fair board's marks, as a function -/
structure Fa (m n : Nat) (ks : List Int) : Prop where
  k : Mk m n ks
  g : GoodF m n (fV (List.replicate n (m : Int)) ks)
theorem rep_pos {m n : Nat} (h : 2 ≤ m) : ∀ x ∈ List.replicate n (m : Int), 1 ≤ x := fun x hx => by have := (List.mem_replicate.mp hx).2; omega
theorem fa_of {m n : Nat} {f : List Int → Int} (g : GoodF m n f) (m2 : 2 ≤ m) (m8 : m ≤ 8) (n1 : 1 ≤ n) (n4 : n ≤ 4) (sm : m ^ n ≤ 512) : Fa m n ((setS (List.replicate n (m : Int))).map f) := by
  have fv : ∀ r, IsS (List.replicate n (m : Int)) r → fV (List.replicate n (m : Int)) ((setS (List.replicate n (m : Int))).map f) r = f r := fun r hr => fV_map (rep_pos m2) hr
  refine ⟨⟨m2, m8, n1, n4, sm, by rw [List.length_map, len_rep], fun v hv => ?_⟩, fun r hr => ?_⟩
  · obtain ⟨r, hr, rfl⟩ := List.mem_map.mp hv
    exact (g r (mem_setS.mp hr)).1
  · rw [fv r hr]
    refine ⟨(g r hr).1, fun i hi c c0 c1 ne => ?_⟩
    rw [fv _ (isS_set hr c0 (by rw [List.getD_eq_getElem?_getD, List.getElem?_replicate, if_pos hi]; exact c1))]
    exact (g r hr).2 i hi c c0 c1 ne
theorem rep_get {m n i : Nat} (h : i < n) : (List.replicate n (m : Int)).getD i 0 = m := by rw [List.getD_eq_getElem?_getD, List.getElem?_replicate, if_pos h]; rfl
theorem Fa.fair {m n : Nat} {ks : List Int} (h : Fa m n ks) : FairB (List.replicate n (m : Int)) ks := fun i hi r hr c h1 h2 => by
  rw [List.length_replicate] at hi
  rw [rep_get hi] at h2
  have r0 := (isS_rep.mp hr).2 i hi
  exact (h.g r hr).2 i hi c (by omega) h2 (by omega)
theorem isS_set' {m n : Nat} {r : List Int} (h : IsS (List.replicate n (m : Int)) r) {i : Nat} (hi : i < n) {c : Int} (c0 : 0 ≤ c) (c1 : c < m) : IsS (List.replicate n (m : Int)) (r.set i c) := isS_set h c0 (by rw [rep_get hi]; exact c1)
/-- on each line each mark stands once -/
theorem Fa.inj {m n : Nat} {ks r : List Int} (h : Fa m n ks) (hr : IsS (List.replicate n (m : Int)) r) {i : Nat} (hi : i < n) {c d : Int} (c0 : 0 ≤ c) (c1 : c < m) (d0 : 0 ≤ d) (d1 : d < m) (e : fV (List.replicate n (m : Int)) ks (r.set i c) = fV (List.replicate n (m : Int)) ks (r.set i d)) : c = d := by
  by_cases q : c = d
  · exact q
  · have l := (isS_rep.mp hr).1
    have := (h.g _ (isS_set' hr hi d0 d1)).2 i hi c c0 c1 (by rw [getD_set_self (by omega)]; exact q)
    rw [set_set] at this
    exact (this e).elim
theorem Fa.line {m n : Nat} {ks r : List Int} (h : Fa m n ks) (hr : IsS (List.replicate n (m : Int)) r) {i : Nat} (hi : i < n) {v : Int} (v0 : 0 ≤ v) (v1 : v < m) : ∃ c : Int, 0 ≤ c ∧ c < m ∧ fV (List.replicate n (m : Int)) ks (r.set i c) = v :=
  inj_sur (g := fun c => fV (List.replicate n (m : Int)) ks (r.set i c)) (fun c c0 c1 => (h.g _ (isS_set' hr hi c0 c1)).1) (fun c d c0 c1 d0 d1 e => h.inj hr hi c0 c1 d0 d1 e) v0 v1
theorem spoil_not {m n : Nat} {ks : List Int} {a : Nat} (h : Fa m n ks) (ha : a < ks.length) : ¬ FairB (List.replicate n (m : Int)) (spoil m ks a) := by
  intro F
  have m2 := h.k.m2
  have n1 := h.k.n1
  have pos := rep_pos (n := n) m2
  have sl := len_rep m n
  have hsa : (setS (List.replicate n (m : Int)))[a]? = some ((setS (List.replicate n (m : Int)))[a]'(by rw [sl, ← h.k.len]; exact ha)) := List.getElem?_eq_getElem _
  generalize (setS (List.replicate n (m : Int)))[a]'(by rw [sl, ← h.k.len]; exact ha) = r at hsa
  have hr := mem_setS.mp (List.mem_of_getElem? hsa)
  have na := num_get pos hsa
  obtain ⟨l, rr⟩ := isS_rep.mp hr
  have at_ : ∀ s, IsS (List.replicate n (m : Int)) s → fV (List.replicate n (m : Int)) (spoil m ks a) s = if s = r then (fV (List.replicate n (m : Int)) ks s + 1) % (m : Int) else fV (List.replicate n (m : Int)) ks s := fun s hs => by
    obtain ⟨j, e1, e2⟩ := fv_at h.k.bd hs
    have e3 := spoil_get (m := m) (a := a) e2
    have ej : (numI (List.replicate n (m : Int)) s).toNat = j := by omega
    have : fV (List.replicate n (m : Int)) (spoil m ks a) s = (spoil m ks a).getD j 0 := by unfold fV; rw [ej]
    rw [this, List.getD_eq_getElem?_getD, e3]
    by_cases q : j = a
    · have es : s = r := by
        have g := (get_num pos hs).2
        rw [ej, q, hsa] at g
        exact (Option.some.inj g).symm
      rw [if_pos q, if_pos es]
      rfl
    · have es : ¬ s = r := fun z => q (by rw [z, na] at e1; omega)
      rw [if_neg q, if_neg es]
      rfl
  have v := (h.g r hr).1
  have w0 := Int.emod_nonneg (fV (List.replicate n (m : Int)) ks r + 1) (show (m : Int) ≠ 0 by omega)
  have w1 := Int.emod_lt_of_pos (fV (List.replicate n (m : Int)) ks r + 1) (show (0 : Int) < m by omega)
  have ne : (fV (List.replicate n (m : Int)) ks r + 1) % (m : Int) ≠ fV (List.replicate n (m : Int)) ks r := by
    intro e
    by_cases q : fV (List.replicate n (m : Int)) ks r + 1 = m
    · rw [q, Int.emod_self] at e
      omega
    · rw [Int.emod_eq_of_lt (by omega) (by omega)] at e
      omega
  obtain ⟨c, c0, c1, ec⟩ := h.line hr (i := 0) (by omega) w0 w1
  have r0 := rr 0 (by omega)
  have hc := isS_set' hr (i := 0) (by omega) c0 c1
  have cr : c ≠ r.getD 0 0 := fun z => by
    rw [z, set_self (by omega)] at ec
    exact ne ec.symm
  have nr : r.set 0 c ≠ r := fun z => cr (by
    have := congrArg (fun l => l.getD 0 0) z
    simp only [getD_set_self (show 0 < r.length by omega)] at this
    exact this)
  have e1 := at_ r hr
  rw [if_pos rfl] at e1
  have e2 := at_ _ hc
  rw [if_neg nr, ec] at e2
  have F0 := F 0 (by rw [List.length_replicate]; omega)
  by_cases q : r.getD 0 0 < c
  · exact F0 r hr c q (by rw [rep_get (by omega)]; exact c1) (by rw [e1, e2])
  · have := F0 (r.set 0 c) hc (r.getD 0 0) (by rw [getD_set_self (by omega)]; omega) (by rw [rep_get (by omega)]; exact r0.2)
    rw [set_set, set_self (by omega)] at this
    exact this (by rw [e1, e2])
/-- a part that is not told -/
theorem free_part {m n : Nat} {ps : List (Nat × Int)} (h : PsOk m n ps) (l : ps.length < n) : ∃ i, i < n ∧ ∀ p ∈ ps, p.1 ≠ i := by
  by_cases q : ∃ i, i < n ∧ ∀ p ∈ ps, p.1 ≠ i
  · exact q
  · exfalso
    have all : ∀ i ∈ List.range n, i ∈ ps.map (·.1) := fun i hi => by
      by_cases z : i ∈ ps.map (·.1)
      · exact z
      · exact (q ⟨i, List.mem_range.mp hi, fun p hp e => z (List.mem_map.mpr ⟨p, hp, e⟩)⟩).elim
    have := nodup_le List.nodup_range all
    rw [List.length_range, List.length_map] at this
    omega
theorem fits_set {ps : List (Nat × Int)} {r : List Int} {i : Nat} {c : Int} (h : ∀ p ∈ ps, p.1 ≠ i) : fits ps (r.set i c) = fits ps r := by
  unfold fits
  rw [Bool.eq_iff_iff, List.all_eq_true, List.all_eq_true]
  constructor <;> intro a p hp <;> have := a p hp <;> rwa [getD_set_ne (Ne.symm (h p hp))] at *
theorem fit_count {m n : Nat} {ks : List Int} {ps : List (Nat × Int)} {mk : Int} (h : Fa m n ks) (l : ∃ i, i < n ∧ ∀ p ∈ ps, p.1 ≠ i) (k0 : 0 ≤ mk) (k1 : mk < m) :
    (fitL (List.replicate n (m : Int)) ks ps mk).length * m = ((setS (List.replicate n (m : Int))).filter (fits ps)).length := by
  obtain ⟨i, hi, hf⟩ := l
  have pos := rep_pos (n := n) h.k.m2
  have nd := setS_nodup pos
  have E : ((fitL (List.replicate n (m : Int)) ks ps mk).flatMap fun a => ((List.range m).map fun (c : Nat) => a.set i (c : Int))).length = (fitL (List.replicate n (m : Int)) ks ps mk).length * m := by
    generalize fitL (List.replicate n (m : Int)) ks ps mk = A
    induction A with
    | nil => simp
    | cons a A ih =>
      rw [List.flatMap_cons, List.length_append, ih, List.length_map, List.length_range, List.length_cons, Nat.succ_mul]
      omega
  rw [← E]
  have memA : ∀ a, a ∈ fitL (List.replicate n (m : Int)) ks ps mk ↔ IsS (List.replicate n (m : Int)) a ∧ fV (List.replicate n (m : Int)) ks a = mk ∧ fits ps a = true := fun a => by
    unfold fitL fitB
    rw [List.mem_filter, mem_setS, Bool.and_eq_true, decide_eq_true_iff]
  refine nodup_len ?_ (nd.filter _) fun r => ?_
  · show List.Pairwise (· ≠ ·) _
    rw [List.pairwise_flatMap]
    refine ⟨fun a ha => ?_, ?_⟩
    · have la := (isS_rep.mp ((memA a).mp ha).1).1
      refine List.pairwise_map.mpr (List.Pairwise.imp_of_mem ?_ (List.nodup_range (n := m)))
      intro c d _ _ ne e
      have := congrArg (fun l => l.getD i 0) e
      simp only [getD_set_self (show i < a.length by omega)] at this
      omega
    · have nA : (fitL (List.replicate n (m : Int)) ks ps mk).Nodup := nd.filter _
      refine List.Pairwise.imp_of_mem ?_ nA
      intro a b ha hb ne x hx y hy e
      obtain ⟨c, _, rfl⟩ := List.mem_map.mp hx
      obtain ⟨d, _, rfl⟩ := List.mem_map.mp hy
      obtain ⟨a1, a2, _⟩ := (memA a).mp ha
      obtain ⟨b1, b2, _⟩ := (memA b).mp hb
      have la := (isS_rep.mp a1).1
      have lb := (isS_rep.mp b1).1
      have eb : b = a.set i (b.getD i 0) := by
        have := congrArg (fun l => l.set i (b.getD i 0)) e
        simp only [set_set] at this
        rw [set_self (by omega)] at this
        exact this.symm
      have ra := (isS_rep.mp a1).2 i hi
      have rb := (isS_rep.mp b1).2 i hi
      have := h.inj a1 hi rb.1 rb.2 ra.1 ra.2 (by rw [← eb, set_self (by omega), a2, b2])
      refine ne ?_
      rw [eb, this, set_self (by omega)]
  · rw [List.mem_flatMap, List.mem_filter, mem_setS]
    constructor
    · rintro ⟨a, ha, hx⟩
      obtain ⟨c, hc, rfl⟩ := List.mem_map.mp hx
      have := List.mem_range.mp hc
      obtain ⟨a1, a2, a3⟩ := (memA a).mp ha
      exact ⟨isS_set' a1 hi (by omega) (by omega), by rw [fits_set hf]; exact a3⟩
    · rintro ⟨r1, r2⟩
      obtain ⟨c, c0, c1, e⟩ := h.line r1 hi k0 k1
      have rr := (isS_rep.mp r1).2 i hi
      refine ⟨r.set i c, (memA _).mpr ⟨isS_set' r1 hi c0 c1, e, by rw [fits_set hf]; exact r2⟩, List.mem_map.mpr ⟨(r.getD i 0).toNat, List.mem_range.mpr (by omega), ?_⟩⟩
      rw [set_set, Int.toNat_of_nonneg rr.1, set_self (by rw [(isS_rep.mp r1).1]; exact hi)]
theorem fit_const {m n : Nat} {ps : List (Nat × Int)} {mk : Int} (m2 : 2 ≤ m) : fitL (List.replicate n (m : Int)) (List.replicate (m ^ n) mk) ps mk = (setS (List.replicate n (m : Int))).filter (fits ps) := by
  unfold fitL
  refine List.filter_congr fun r hr => ?_
  have hr := mem_setS.mp hr
  have e : fV (List.replicate n (m : Int)) (List.replicate (m ^ n) mk) r = mk := by
    have g := get_num (rep_pos m2) hr
    have hl := (List.getElem?_eq_some_iff.mp g.2).1
    rw [len_rep] at hl
    unfold fV
    rw [List.getD_eq_getElem?_getD, List.getElem?_replicate, if_pos hl]
    rfl
  unfold fitB
  rw [e, decide_eq_true rfl, Bool.true_and]
theorem fit_all {m n : Nat} {ks : List Int} {mk : Int} (h : Fa m n ks) (k0 : 0 ≤ mk) (k1 : mk < m) : (fitL (List.replicate n (m : Int)) ks [] mk).length * m = m ^ n := by
  rw [fit_count h ⟨0, h.k.n1, fun p hp => absurd hp List.not_mem_nil⟩ k0 k1]
  have : (setS (List.replicate n (m : Int))).filter (fits []) = setS (List.replicate n (m : Int)) := List.filter_eq_self.mpr fun r _ => rfl
  rw [this, len_rep]
end K83
set_option linter.all false
namespace K83
open PySem PySem.Spec PyProof.Rows L2 DL
/-! numbers of things as they first come -/
section
variable {α β γ : Type} [DecidableEq α] [DecidableEq β]
/-- the things, each once, as they first come -/
def ddS (acc : List α) (x : α) : List α := if x ∈ acc then acc else acc ++ [x]
def dd (xs : List α) : List α := xs.foldl ddS []
def nums (xs : List α) : List Nat := xs.map fun x => (dd xs).idxOf x
theorem dd_snoc (xs : List α) (x : α) : dd (xs ++ [x]) = ddS (dd xs) x := by
  unfold dd
  rw [List.foldl_append]
  rfl
theorem ddS_mem {acc : List α} {x y : α} : y ∈ ddS acc x ↔ y ∈ acc ∨ y = x := by
  unfold ddS
  split
  · constructor
    · exact .inl
    · rintro (h | rfl)
      · exact h
      · assumption
  · simp
theorem dd_mem0 (y : α) : ∀ (xs acc : List α), y ∈ xs.foldl ddS acc ↔ y ∈ acc ∨ y ∈ xs
  | [], acc => by simp
  | x :: xs, acc => by
    rw [List.foldl_cons, dd_mem0 y xs, ddS_mem, List.mem_cons, or_assoc]
theorem dd_mem {xs : List α} {y : α} : y ∈ dd xs ↔ y ∈ xs := by
  unfold dd
  rw [dd_mem0]
  simp
theorem ddS_nodup {acc : List α} {x : α} (h : acc.Nodup) : (ddS acc x).Nodup := by
  unfold ddS
  split
  · exact h
  · rw [List.nodup_append]
    exact ⟨h, by simp, fun a ha b hb e => by
      rw [List.mem_singleton.mp hb] at e
      subst e
      contradiction⟩
theorem dd_nodup0 : ∀ (xs acc : List α), acc.Nodup → (xs.foldl ddS acc).Nodup
  | [], _, h => h
  | x :: xs, acc, h => by
    rw [List.foldl_cons]
    exact dd_nodup0 xs _ (ddS_nodup h)
theorem dd_nodup (xs : List α) : (dd xs).Nodup := dd_nodup0 xs [] (by simp)
theorem dd_len0 : ∀ (xs acc : List α), (xs.foldl ddS acc).length ≤ acc.length + xs.length
  | [], _ => Nat.le_refl _
  | x :: xs, acc => by
    rw [List.foldl_cons]
    have := dd_len0 xs (ddS acc x)
    have h2 : (ddS acc x).length ≤ acc.length + 1 := by
      unfold ddS
      split
      · omega
      · simp
    rw [List.length_cons]
    omega
theorem dd_len (xs : List α) : (dd xs).length ≤ xs.length := by
  have := dd_len0 xs []
  simpa [dd] using this
/-- what comes later changes no number -/
theorem ddS_idx {acc : List α} {x y : α} (h : y ∈ acc) : (ddS acc x).idxOf y = acc.idxOf y := by
  unfold ddS
  split
  · rfl
  · rw [List.idxOf_append, if_pos h]
theorem dd_idx0 {y : α} : ∀ (xs acc : List α), y ∈ acc → (xs.foldl ddS acc).idxOf y = acc.idxOf y
  | [], _, _ => rfl
  | x :: xs, acc, h => by
    rw [List.foldl_cons, dd_idx0 xs _ (ddS_mem.mpr (.inl h)), ddS_idx h]
theorem dd_idx {xs ys : List α} {y : α} (h : y ∈ xs) : (dd (xs ++ ys)).idxOf y = (dd xs).idxOf y := by
  unfold dd
  rw [List.foldl_append]
  exact dd_idx0 ys _ (dd_mem.mpr h)
/-- the dict of the numbers -/
def ddK (xs : List α) : List (α × Nat) := (dd xs).zipIdx
theorem lk_zip {y : α} : ∀ (l : List α) (n : Nat), lk (l.zipIdx n) y = if y ∈ l then some (l.idxOf y + n) else none
  | [], n => rfl
  | x :: l, n => by
    rw [List.zipIdx_cons]
    by_cases h : x = y
    · subst h
      simp [lk]
    · have e : lk ((x, n) :: l.zipIdx (n + 1)) y = lk (l.zipIdx (n + 1)) y := by simp [lk, h]
      rw [e, lk_zip l (n + 1), List.idxOf_cons]
      have hb : (x == y) = false := beq_eq_false_iff_ne.mpr h
      rw [hb]
      have hmc : y ∈ x :: l ↔ y ∈ l := by simp [List.mem_cons, Ne.symm h]
      by_cases hm : y ∈ l
      · rw [if_pos hm, if_pos (hmc.mpr hm)]
        simp
        omega
      · rw [if_neg hm, if_neg fun z => hm (hmc.mp z)]
theorem lk_ddK {xs : List α} {y : α} : lk (ddK xs) y = if y ∈ xs then some ((dd xs).idxOf y) else none := by
  unfold ddK
  rw [lk_zip]
  simp only [dd_mem, Nat.add_zero]
theorem ddK_len (xs : List α) : (ddK xs).length = (dd xs).length := by simp [ddK]
theorem ddK_old {xs : List α} {x : α} (h : x ∈ xs) : ddK (xs ++ [x]) = ddK xs := by
  unfold ddK
  rw [dd_snoc]
  unfold ddS
  rw [if_pos (dd_mem.mpr h)]
theorem ddK_new {xs : List α} {x : α} (h : x ∉ xs) : ddK (xs ++ [x]) = ddK xs ++ [(x, (dd xs).length)] := by
  unfold ddK
  rw [dd_snoc]
  unfold ddS
  rw [if_neg (fun q => h (dd_mem.mp q)), List.zipIdx_append]
  simp
theorem dd_new {xs : List α} {x : α} (h : x ∉ xs) : (dd (xs ++ [x])).idxOf x = (dd xs).length := by
  rw [dd_snoc]
  unfold ddS
  rw [if_neg (fun q => h (dd_mem.mp q)), List.idxOf_append, if_neg (fun q => h (dd_mem.mp q))]
  simp
theorem snocInd {α : Type} {P : List α → Prop} (h0 : P []) (h1 : ∀ l a, P l → P (l ++ [a])) (l : List α) : P l := by
  rw [← List.reverse_reverse l]
  induction l.reverse with
  | nil => exact h0
  | cons a r ih => rw [List.reverse_cons]; exact h1 _ _ ih
/-! the numbers tell what is alike, and nothing else -/
theorem reps (k1 : γ → α) (k2 : γ → β) : ∀ (S : List γ), (∀ a ∈ S, ∀ b ∈ S, k1 a = k1 b ↔ k2 a = k2 b) → ∃ R : List γ, (∀ a ∈ R, a ∈ S) ∧ dd (S.map k1) = R.map k1 ∧ dd (S.map k2) = R.map k2 := fun S => by
  refine snocInd (P := fun S => (∀ a ∈ S, ∀ b ∈ S, k1 a = k1 b ↔ k2 a = k2 b) → ∃ R : List γ, (∀ a ∈ R, a ∈ S) ∧ dd (S.map k1) = R.map k1 ∧ dd (S.map k2) = R.map k2) (fun _ => ⟨[], by simp, rfl, rfl⟩) (fun S x ih h => ?_) S
  obtain ⟨R, r1, r2, r3⟩ := ih fun a ha b hb => h a (List.mem_append_left _ ha) b (List.mem_append_left _ hb)
  have hx : x ∈ S ++ [x] := by simp
  by_cases q : k1 x ∈ R.map k1
  · have q2 : k2 x ∈ R.map k2 := by
      obtain ⟨y, hy, e⟩ := List.mem_map.mp q
      exact List.mem_map.mpr ⟨y, hy, (h y (List.mem_append_left _ (r1 y hy)) x hx).mp e⟩
    refine ⟨R, fun a ha => List.mem_append_left _ (r1 a ha), ?_, ?_⟩
    · rw [List.map_append, List.map_singleton, dd_snoc, r2]; unfold ddS; rw [if_pos q]
    · rw [List.map_append, List.map_singleton, dd_snoc, r3]; unfold ddS; rw [if_pos q2]
  · have q2 : k2 x ∉ R.map k2 := fun z => q (by
      obtain ⟨y, hy, e⟩ := List.mem_map.mp z
      exact List.mem_map.mpr ⟨y, hy, (h y (List.mem_append_left _ (r1 y hy)) x hx).mpr e⟩)
    refine ⟨R ++ [x], fun a ha => ?_, ?_, ?_⟩
    · rcases List.mem_append.mp ha with ha | ha
      · exact List.mem_append_left _ (r1 a ha)
      · exact List.mem_append_right _ ha
    · rw [List.map_append, List.map_singleton, dd_snoc, r2]; unfold ddS; rw [if_neg q, List.map_append]; rfl
    · rw [List.map_append, List.map_singleton, dd_snoc, r3]; unfold ddS; rw [if_neg q2, List.map_append]; rfl
theorem idx_same (k1 : γ → α) (k2 : γ → β) (a : γ) : ∀ (R : List γ), (∀ b ∈ R, k1 b = k1 a ↔ k2 b = k2 a) → (R.map k1).idxOf (k1 a) = (R.map k2).idxOf (k2 a)
  | [], _ => rfl
  | b :: R, h => by
    rw [List.map_cons, List.map_cons, List.idxOf_cons, List.idxOf_cons, idx_same k1 k2 a R fun c hc => h c (List.mem_cons_of_mem _ hc)]
    have hb := h b List.mem_cons_self
    by_cases q : k1 b = k1 a
    · rw [beq_iff_eq.mpr q, beq_iff_eq.mpr (hb.mp q)]
    · rw [beq_eq_false_iff_ne.mpr q, beq_eq_false_iff_ne.mpr fun z => q (hb.mpr z)]
theorem nums_same (k1 : γ → α) (k2 : γ → β) (S : List γ) (h : ∀ a ∈ S, ∀ b ∈ S, k1 a = k1 b ↔ k2 a = k2 b) : nums (S.map k1) = nums (S.map k2) ∧ (dd (S.map k1)).length = (dd (S.map k2)).length := by
  obtain ⟨R, r1, r2, r3⟩ := reps k1 k2 S h
  constructor
  · unfold nums
    rw [List.map_map, List.map_map]
    refine List.map_congr_left fun a ha => ?_
    show (dd (S.map k1)).idxOf (k1 a) = (dd (S.map k2)).idxOf (k2 a)
    rw [r2, r3]
    exact idx_same k1 k2 a R fun b hb => h b (r1 b hb) a ha
  · rw [r2, r3, List.length_map, List.length_map]
theorem idx_inj {l : List α} {x y : α} (hx : x ∈ l) (hy : y ∈ l) (e : l.idxOf x = l.idxOf y) : x = y := by
  have a := List.getElem_idxOf (List.idxOf_lt_length_of_mem hx)
  have b := List.getElem_idxOf (List.idxOf_lt_length_of_mem hy)
  rw [← a, ← b]
  congr 1
theorem map_eq_at {δ : Type} {f g : γ → δ} : ∀ {S : List γ}, S.map f = S.map g → ∀ a ∈ S, f a = g a
  | [], _, a, h => nomatch h
  | x :: S, e, a, h => by
    rw [List.map_cons, List.map_cons] at e
    have ⟨e1, e2⟩ := List.cons.inj e
    rcases List.mem_cons.mp h with rfl | h
    · exact e1
    · exact map_eq_at e2 a h
theorem nums_pat {k1 : γ → α} {k2 : γ → β} {S : List γ} (e : nums (S.map k1) = nums (S.map k2)) : ∀ a ∈ S, ∀ b ∈ S, k1 a = k1 b ↔ k2 a = k2 b := by
  unfold nums at e
  rw [List.map_map, List.map_map] at e
  have h := map_eq_at e
  intro a ha b hb
  have h1 : (dd (S.map k1)).idxOf (k1 a) = (dd (S.map k2)).idxOf (k2 a) := h a ha
  have h2 : (dd (S.map k1)).idxOf (k1 b) = (dd (S.map k2)).idxOf (k2 b) := h b hb
  have m1 : ∀ c ∈ S, k1 c ∈ dd (S.map k1) := fun c hc => dd_mem.mpr (List.mem_map.mpr ⟨c, hc, rfl⟩)
  have m2 : ∀ c ∈ S, k2 c ∈ dd (S.map k2) := fun c hc => dd_mem.mpr (List.mem_map.mpr ⟨c, hc, rfl⟩)
  constructor
  · intro q
    refine idx_inj (m2 a ha) (m2 b hb) ?_
    rw [← h1, ← h2, q]
  · intro q
    refine idx_inj (m1 a ha) (m1 b hb) ?_
    rw [h1, h2, q]
/-- so many unlike things in a list -/
theorem pigeon : ∀ {l r : List α}, l.Nodup → (∀ x ∈ l, x ∈ r) → l.length ≤ r.length
  | [], _, _, _ => Nat.zero_le _
  | x :: l, r, n, h => by
    have hx := h x List.mem_cons_self
    have nd := List.nodup_cons.mp n
    have := pigeon (l := l) (r := r.erase x) nd.2 fun y hy => (List.mem_erase_of_ne fun e => nd.1 (by rw [← e]; exact hy)).mpr (h y (List.mem_cons_of_mem _ hy))
    rw [List.length_erase_of_mem hx] at this
    have := List.length_pos_of_mem hx
    rw [List.length_cons]
    omega
theorem pigeon_all {l r : List α} (nl : l.Nodup) (h : ∀ x ∈ l, x ∈ r) (e : r.length ≤ l.length) {y : α} (hy : y ∈ r) : y ∈ l := by
  refine Classical.byContradiction fun q => ?_
  have := pigeon (l := y :: l) (r := r) (List.nodup_cons.mpr ⟨q, nl⟩) fun x hx => by
    rcases List.mem_cons.mp hx with rfl | hx
    · exact hy
    · exact h x hx
  rw [List.length_cons] at this
  omega
end
end K83
set_option linter.all false
namespace K83
open PySem PySem.Spec PyProof.Rows L2 DL
local macro_rules | `(tactic| walk_at "w") => `(tactic| conv => whnf)
theorem lk_map {α β δ : Type} [DecidableEq α] (f : β → δ) (k : α) : ∀ l : List (α × β), lk (l.map fun q => (q.1, f q.2)) k = (lk l k).map f
  | [] => rfl
  | (a, b) :: l => by
    by_cases h : a = k
    · subst h
      simp [lk]
    · have e1 : lk ((a, b) :: l) k = lk l k := by simp [lk, h]
      have e2 : lk (((a, b) :: l).map fun q => (q.1, f q.2)) k = lk (l.map fun q => (q.1, f q.2)) k := by simp [lk, h]
      rw [e1, e2, lk_map f k l]
/-- the dict of the numbers, as values -/
abbrev ddD {α : Type} [DecidableEq α] (xs : List α) : List (α × D) := (ddK xs).map fun q => (q.1, D.int (q.2 : Nat))
theorem lk_ddD {α : Type} [DecidableEq α] {xs : List α} {y : α} : lk (ddD xs) y = if y ∈ xs then some (D.int ((dd xs).idxOf y : Nat)) else none := by
  rw [lk_map (fun n : Nat => D.int (n : Int)), lk_ddK]
  split <;> rfl
theorem ddD_len {α : Type} [DecidableEq α] (xs : List α) : (ddD xs).length = (dd xs).length := by rw [List.length_map, ddK_len]
theorem ddD_old {α : Type} [DecidableEq α] {xs : List α} {x : α} (h : x ∈ xs) : ddD (xs ++ [x]) = ddD xs := by unfold ddD; rw [ddK_old h]
theorem ddD_new {α : Type} [DecidableEq α] {xs : List α} {x : α} (h : x ∉ xs) : ddD (xs ++ [x]) = addE (ddD xs) x (.int ((dd xs).length : Nat)) := by
  unfold ddD
  rw [ddK_new h, List.map_append]
  rfl
section
variable {P₀ : Program} {w : World} {K : PySem.W.Frag} {mg : Str → Option Value} {base : Heap} {C_Board C_BoardError C_InvalidBoard C_InvalidSetting C_InvalidSize C_InvalidLot C_Refused : Addr}
structure KeyP (p : List D × NestedKey) : Prop where
  n : NK (.tup p.1) p.2
  d : p.2.depth ≤ 8
def sp_firsts : DSp := fun ds M Q _ => ∃ (d : D) (ps : List (List D × NestedKey)), ds = [d] ∧ SqD M d (ps.map fun p => .tup p.1) ∧ (∀ p ∈ ps, KeyP p) ∧ ps.length ≤ 100000 ∧ ∀ M', Les M M' → Q (.tup (natD (nums (ps.map (·.2))))) M'
end
end K83
set_option linter.all false
namespace K83
open PySem PySem.Spec PyProof.Rows L2 DL
local macro_rules | `(tactic| walk_at "w") => `(tactic| conv => whnf)
abbrev nsR (m n : Nat) : List Int := List.replicate n (m : Int)
theorem rep_all {n m : Nat} : ∀ x ∈ nsR m n, x = (m : Int) := fun x hx => (List.mem_replicate.mp hx).2
theorem Mk.bf {m n : Nat} {ks : List Int} (h : Mk m n ks) : BdF m (nsR m n) ks := { h.bd with m1 := by have := h.m2; omega, m2 := by have := h.m8; omega, rg := h.rng }
/-- truths as a key -/
abbrev blD (bs : List Bool) : List D := bs.map D.bl
def blK (bs : List Bool) : NestedKey := .tup (bs.map fun b => .num (if b = true then 1 else 0))
theorem blK_is : ∀ bs : List Bool, NKs (blD bs) (bs.map fun b => .num (if b = true then 1 else 0))
  | [] => .nil
  | b :: bs => .cons (.bl b) (blK_is bs)
theorem flat_depth : ∀ ks : List NestedKey, (∀ k ∈ ks, k.depth = 0) → NestedKey.depthAll ks = 0
  | [], _ => by simp [NestedKey.depthAll]
  | k :: ks, h => by
    have a := h k List.mem_cons_self
    have b := flat_depth ks fun k hk => h k (List.mem_cons_of_mem _ hk)
    simp [NestedKey.depthAll, a, b]
theorem blK_key (bs : List Bool) : KeyP (blD bs, blK bs) := ⟨.tup (blK_is bs), by
  have := flat_depth (bs.map fun b => .num (if b = true then 1 else 0)) fun k hk => by
    obtain ⟨b, _, rfl⟩ := List.mem_map.mp hk
    simp [NestedKey.depth]
  show NestedKey.depthAll _ + 1 ≤ 8
  rw [this]
  decide⟩
theorem blK_inj {a b : List Bool} (h : blK a = blK b) : a = b := by
  unfold blK at h
  have h := NestedKey.tup.inj h
  exact (List.map_inj_right fun x y e => by cases x <;> cases y <;> simp at e ⊢).mp h
/-- which of the others' contents bring a mark -/
def leftL (m n : Nat) (ks : List Int) (lot : List Nat) (mk : Int) (a : List Int) : List Bool := (setS (atL (nsR m n) (restL n lot))).map fun b => decide (lmV (nsR m n) ks lot a b = mk)
def kkL (m n : Nat) (ks : List Int) (lot : List Nat) (mk : Int) : List Nat := nums ((setS (atL (nsR m n) lot)).map (leftL m n ks lot mk))
section
variable {P₀ : Program} {w : World} {K : PySem.W.Frag} {mg : Str → Option Value} {base : Heap} {C_Board C_BoardError C_InvalidBoard C_InvalidSetting C_InvalidSize C_InvalidLot C_Refused : Addr}
def sp_kk (K : PySem.W.Frag) (C_Board C_InvalidLot C_Refused : Addr) : DSp := fun ds M Q PE => ∃ (p : Addr) (e : D) (mk : Int) (m n : Nat) (ks : List Int) (o : Option (List D)), ds = [.ref p, e, .int mk] ∧ BdAt C_Board M p m (nsR m n) ks ∧ Mk m n ks ∧ Vw K M e o ∧
  (FairB (nsR m n) ks → match ldD (n : Nat) o with
    | .non => ∃ lot, o = some (natD lot) ∧ LotOk n lot ∧ ∀ M', Les M M' → Q (.tup (natD (kkL m n ks lot mk))) M'
    | x => ∀ M', Les M M' → PE ⟨C_InvalidLot, [("at", x)]⟩ M') ∧ (¬ FairB (nsR m n) ks → RfD C_Refused M PE)
end
end K83
set_option linter.all false
namespace K83
open PySem PySem.Spec PyProof.Rows L2 DL
local macro_rules | `(tactic| walk_at "w") => `(tactic| conv => whnf)
section
variable {P₀ : Program} {w : World} {K : PySem.W.Frag} {mg : Str → Option Value} {base : Heap} {C_Board C_BoardError C_InvalidBoard C_InvalidSetting C_InvalidSize C_Refused : Addr}
abbrev s__law_places : Stmt := top 57
abbrev N__law_places : List Str := ["many", "size", "lot", "places", "part", "step", "later", "grown", "place", "content"]
abbrev P__law_places : List Str := ["many", "size", "lot"]
theorem sc__law_places : FnScope N__law_places P__law_places (defScope s__law_places) := ⟨rfl, rfl, rfl, by decide +kernel, rfl, by decide +kernel, by decide +kernel⟩
/-- the steps of a lot's contents: parts below i -/
def plc (m n : Nat) (lot : List Nat) : Nat → List Int
  | 0 => [0]
  | i + 1 => if i ∈ lot then (plc m n lot i).flatMap fun v => (List.range m).map fun (c : Nat) => v + (m : Int) ^ (n - 1 - i) * c else plc m n lot i
theorem plc_len (m n : Nat) (lot : List Nat) (m1 : 1 ≤ m) : ∀ i, (plc m n lot i).length ≤ m ^ i
  | 0 => Nat.le_refl _
  | i + 1 => by
    have ih := plc_len m n lot m1 i
    unfold plc
    split
    · rw [List.length_flatMap]
      simp only [List.length_map, List.length_range]
      rw [Nat.pow_succ]
      refine Nat.le_trans ?_ (Nat.mul_le_mul_right m ih)
      generalize plc m n lot i = l
      induction l with
      | nil => simp
      | cons a l ih => simp [Nat.succ_mul] at *; omega
    · rw [Nat.pow_succ]
      exact Nat.le_trans ih (Nat.le_mul_of_pos_right _ m1)
def sp_plc : DSp := fun ds M Q _ => ∃ (m n : Nat) (d : D) (lot : List Nat), ds = [.int m, .int n, d] ∧ SqD M d (natD lot) ∧ 2 ≤ m ∧ m ≤ 8 ∧ n ≤ 4 ∧ m ^ n ≤ 512 ∧ ∀ g M', Les M M' → M g = none → M' g = some (.lst ((plc m n lot n).map D.int)) → Q (.ref g) M'
theorem ok_plc {f : Addr} {fd : FuncData} (Dd : Df K mg "_law_places" s__law_places f fd P__law_places) (Z : Zs mg) : Cal P₀ w K mg base "_law_places" 1 sp_plc := by
  refine Dd.cal sc__law_places (fun ds M P PE h => ?_) (fun cdv A outer s H E ds M P PE hr tk h => ⟨_, (dss_cons (ds_set 3 sc__law_places.nd (de_lst (da_cons de_int da_nil)))
    (dss_cons (ds_for (passes_of rfl) (di_rg1 Z.rng (de_var 1)) (dg_name 4 sc__law_places.nd) (dss_one (ds_if (dt_cmp (or_in hr) (de_var 4) (de_var 2)) (dss_cons (ds_set 5 sc__law_places.nd de_int)
    (dss_cons (ds_for (passes_of rfl) (di_rg2 Z.rng (de_op or_add (de_var 4) de_int) (de_var 1)) (dg_name 6 sc__law_places.nd) (dss_one (ds_set 5 sc__law_places.nd (de_op or_mul (de_var 5) (de_var 0)))))
    (dss_cons (ds_set 7 sc__law_places.nd (de_lst da_nil))
    (dss_cons (ds_for (passes_of rfl) (di_sq (de_var 3)) (dg_name 8 sc__law_places.nd) (dss_one (ds_expr (de_mt PySem.F.slot_list_extend PySem.F.type_list_extend mt_ext (de_var 7) (da_cons (de_lc sc__law_places.nd (own := [("content", 9)]) (di_rg1 Z.rng (de_var 0)) (blkOk_by (N := N__law_places) (sc := defScope s__law_places) (by decide +kernel)) (ct_name 9)
      (fun _ _ _ _ _ => (pg_name (i := 9) sc__law_places.nd rfl (.inl rfl))) (fun _ _ _ _ _ => dts_nil) (fun _ _ _ _ _ => (de_op or_add (de_var 8) (de_op or_mul (de_var 5) (de_var 9))))) da_nil)))))
    (dss_one (ds_set 3 sc__law_places.nd (de_var 7))))))) dss_nil)))
    (dss_one (ds_ret (de_var 3))))), ?_⟩)
  · obtain ⟨_, _, _, _, rfl, _⟩ := h
    rfl
  · obtain ⟨m, n, d, lot, rfl, hd, m2, m8, n4, sm, q⟩ := h
    walk_at "w"
    refine ⟨(by show 1 ≤ sizeLine; decide), fun a ha => ?_⟩
    have La := les_new (o := .lst [.int 0]) ha
    have fa : upM M a (.lst [.int 0]) a = some (.lst [.int 0]) := upM_same
    generalize upM M a (.lst [.int 0]) = M1 at La fa ⊢
    walk_at "w"
    refine ⟨n, rfl, ⟨by omega, by omega⟩, ?_⟩
    refine ⟨fun i s M' => Les M M' ∧ ∃ e x4 x5 x6 x7 x8 x9, s = [some (.int m), some (.int n), some d, some (.ref e), x4, x5, x6, x7, x8, x9] ∧ M e = none ∧ M' e = some (.lst ((plc m n lot i).map D.int)), .of ⟨La, a, _, _, _, _, _, _, rfl, ha, fa⟩, fun _ _ _ _ _ => trivial, ?_, ?_⟩
    · rintro i x s M' hx ⟨L, e, x4, x5, x6, x7, x8, x9, rfl, me, he⟩
      have hi := (List.getElem?_eq_some_iff.mp hx).1
      rw [rgD_len] at hi
      rw [rgD_get hi] at hx
      cases hx
      have hi : i < n := by omega
      have hd' := hd.les L
      rw [Int.zero_add]
      walk_at "w"
      refine ⟨.int (i : Nat), natD lot, _, .int _, hd', pds_nat lot, shaped_int _, shaped_nat lot, ?_⟩
      rw [if_neg Bool.false_ne_true, any_nat]
      refine ifB_mk (fun h1 => ?_) (fun h1 => ?_)
      · have h1 : i ∈ lot := of_decide_eq_true h1
        walk_at "w"
        refine ⟨_, _, rfl, rfl, ⟨by omega, by omega, by omega, by omega⟩, ?_⟩
        refine ⟨fun k s M2 => M2 = M' ∧ ∃ x6, s = [some (.int m), some (.int n), some d, some (.ref e), some (.int (i : Nat)), some (.int ((m : Int) ^ k)), x6, x7, x8, x9], .of ⟨rfl, _, rfl⟩, fun _ _ _ _ _ => trivial, ?_, ?_⟩
        · rintro k x s M2 hx ⟨rfl, x6, rfl⟩
          walk_at "w"
          refine ⟨.inr ⟨by omega, by omega⟩, ?_⟩
          refine ⟨_, _, Lss.refl _, Les.refl _, rfl, some x, ?_⟩
          rw [Int.pow_succ]
          rfl
        · rintro s M2 ⟨rfl, x6, rfl⟩
          rw [rgD_len, show ((n : Int) - ((i : Int) + 1)).toNat = n - 1 - i by omega]
          walk_at "w"
          refine ⟨Nat.zero_le _, fun g hg => ?_⟩
          have Lg := les_new (o := .lst []) hg
          have fg : upM M2 g (.lst []) g = some (.lst []) := upM_same
          have L1 := L.trans Lg
          have mg0 := L.free hg
          generalize upM M2 g (.lst []) = N1 at Lg fg L1 ⊢
          have pl := plc_len m n lot (by omega) (i + 1)
          have pm : m ^ (i + 1) ≤ m ^ n := Nat.pow_le_pow_right (by omega) (by omega)
          have ps : plc m n lot (i + 1) = (plc m n lot i).flatMap fun v => (List.range m).map fun (c : Nat) => v + (m : Int) ^ (n - 1 - i) * c := by
            show (if i ∈ lot then _ else _) = _
            rw [if_pos h1]
          generalize (m : Int) ^ (n - 1 - i) = st at ps ⊢
          rw [ps] at pl
          generalize plc m n lot i = rows at he ps pl ⊢
          walk_at "w"
          refine ⟨_, .ref (Lg _ _ he), fun j s M3 => Les M2 M3 ∧ (∃ x8 x9, s = [some (.int m), some (.int n), some d, some (.ref e), some (.int (i : Nat)), some (.int st), x6, some (.ref g), x8, x9]) ∧ M3 g = some (.lst (((rows.take j).flatMap fun v => (List.range m).map fun (c : Nat) => v + st * c).map D.int)), .of ⟨Lg, ⟨_, _, rfl⟩, fg⟩, fun j s M3 _ ⟨l, _⟩ => .ref (l _ _ he), ?_, ?_⟩
          · rintro j x s M3 hx ⟨L3, ⟨x8, x9, rfl⟩, hg3⟩
            obtain ⟨v, hv, rfl⟩ := int_at hx
            have sj : ((rows.take (j + 1)).flatMap fun v => (List.range m).map fun (c : Nat) => v + st * c) = ((rows.take j).flatMap fun v => (List.range m).map fun (c : Nat) => v + st * c) ++ (List.range m).map fun (c : Nat) => v + st * c := by
              rw [List.take_add_one, hv, List.flatMap_append]
              simp
            have bj : ((rows.take j).flatMap fun v => (List.range m).map fun (c : Nat) => v + st * c).length + m ≤ 512 := by
              have e1 : (rows.flatMap fun v => (List.range m).map fun (c : Nat) => v + st * c) = ((rows.take (j + 1)).flatMap fun v => (List.range m).map fun (c : Nat) => v + st * c) ++ ((rows.drop (j + 1)).flatMap fun v => (List.range m).map fun (c : Nat) => v + st * c) := by
                rw [← List.flatMap_append, List.take_append_drop]
              rw [e1, List.length_append, sj, List.length_append, List.length_map, List.length_range] at pl
              omega
            walk_at "w"
            refine ⟨⟨g, _, rfl, .inl hg3⟩, ?_⟩
            walk_at "w"
            refine ⟨m, rfl, ⟨by omega, by omega⟩, ?_⟩
            refine ⟨fun k acc M4 => M4 = M3 ∧ acc = ((List.range k).map fun (c : Nat) => v + st * c).map D.int, ⟨_, .refl _, rfl, rfl⟩, fun _ _ _ _ _ => trivial, ?_, ?_⟩
            · rintro k y acc M4 hy ⟨rfl, rfl⟩
              obtain ⟨hk, rfl⟩ := rg_at hy
              walk_at "w"
              refine ⟨.inr ⟨by omega, by omega⟩, size_ok (by simp; omega), _, .refl _, rfl, ?_⟩
              rw [List.range_succ, List.map_append, List.map_append]
              rfl
            · rintro acc M4 ⟨rfl, rfl⟩ h hh
              rw [rg_len]
              have Lh := les_new (o := .lst (((List.range m).map fun (c : Nat) => v + st * c).map D.int)) hh
              have fh : upM M4 h (.lst (((List.range m).map fun (c : Nat) => v + st * c).map D.int)) h = _ := upM_same
              generalize upM M4 h (.lst (((List.range m).map fun (c : Nat) => v + st * c).map D.int)) = M5 at Lh fh ⊢
              refine ⟨g, .ref h, _, _, rfl, rfl, Lh _ _ hg3, .inr ⟨h, rfl, fh⟩, Nat.le_trans (show _ ≤ 100000 by simp only [List.length_map, List.length_range]; omega) (by decide), ?_⟩
              refine ⟨_, _, Lss.refl _, Les.refl _, les_free (L3.trans Lh) hg, ⟨_, _, rfl⟩, ?_⟩
              rw [upM_same, sj, List.map_append]
          · rintro s M3 ⟨L3, ⟨x8, x9, rfl⟩, hg3⟩
            rw [List.length_map, List.take_length] at hg3
            exact ⟨_, _, Lss.refl _, Les.refl _, L.trans L3, g, _, _, _, _, _, _, rfl, mg0, by rw [ps]; exact hg3⟩
      · have h1 : i ∉ lot := of_decide_eq_false h1
        refine ⟨_, _, Lss.refl _, Les.refl _, L, e, _, _, _, _, _, _, rfl, me, ?_⟩
        unfold plc
        rw [if_neg h1]
        exact he
    · rintro s M' ⟨L, e, x4, x5, x6, x7, x8, x9, rfl, me, he⟩
      rw [rgD_len, show ((n : Int) - 0).toNat = n by omega] at he
      walk_at "w"
      exact Lk.of (q e M' L me he)
end
end K83
set_option linter.all false
namespace K83
open PySem PySem.Spec PyProof.Rows L2 DL
/-- the parts of a lot below n -/
def ltl (lot : List Nat) (n : Nat) : List Nat := (List.range n).filter fun j => decide (j ∈ lot)
theorem ltl_succ (lot : List Nat) (i : Nat) : ltl lot (i + 1) = if i ∈ lot then ltl lot i ++ [i] else ltl lot i := by
  unfold ltl
  rw [List.range_succ, List.filter_append]
  by_cases h : i ∈ lot
  · rw [if_pos h]
    simp [h]
  · rw [if_neg h]
    simp [h]
theorem ltl_asc {lot : List Nat} (n : Nat) : (ltl lot n).Pairwise (· < ·) := List.Pairwise.filter _ List.pairwise_lt_range
theorem asc_ltl {n : Nat} {lot : List Nat} (asc : lot.Pairwise (· < ·)) (lt : ∀ i ∈ lot, i < n) : ltl lot n = lot := by
  have pm : (ltl lot n).Perm lot := by
    refine (List.perm_ext_iff_of_nodup (List.nodup_range.filter _) (asc.imp fun h => Nat.ne_of_lt h)).mpr fun x => ?_
    show x ∈ (List.range n).filter (fun j => decide (j ∈ lot)) ↔ _
    rw [List.mem_filter, List.mem_range]
    exact ⟨fun ⟨_, b⟩ => of_decide_eq_true b, fun h => ⟨lt x h, decide_eq_true h⟩⟩
  exact pm.eq_of_pairwise (fun a b _ _ h1 h2 => by omega) (ltl_asc n) asc
theorem rest_asc (n : Nat) (lot : List Nat) : (restL n lot).Pairwise (· < ·) := List.Pairwise.filter _ List.pairwise_lt_range
theorem drop_rep {m n i : Nat} : prodI ((nsR m n).drop (i + 1)) = (m : Int) ^ (n - 1 - i) := by
  rw [show (nsR m n).drop (i + 1) = List.replicate (n - (i + 1)) (m : Int) from List.drop_replicate .., prod_rep, show n - (i + 1) = n - 1 - i by omega]
  exact Int.natCast_pow ..
theorem step_snoc {m n i : Nat} {l : List Nat} {r : List Int} {c : Int} (h : r.length = l.length) : stepL (nsR m n) (l ++ [i]) (r ++ [c]) = stepL (nsR m n) l r + (m : Int) ^ (n - 1 - i) * c := by
  unfold stepL
  rw [List.zip_append h.symm, List.map_append, List.sum_append_int]
  simp only [List.zip_cons_cons, List.zip_nil_right, List.map_cons, List.map_nil, List.sum_cons, List.sum_nil, drop_rep]
  omega
theorem at_snoc {m n i : Nat} {l : List Nat} (h : i < n) : atL (nsR m n) (l ++ [i]) = atL (nsR m n) l ++ [(m : Int)] := by
  unfold atL
  rw [List.map_append]
  congr 1
  simp only [List.map_cons, List.map_nil, List.getD_eq_getElem?_getD, List.getElem?_replicate, if_pos h]
  rfl
theorem plc_ltl {m n : Nat} {lot : List Nat} : ∀ i, i ≤ n → plc m n lot i = (setS (atL (nsR m n) (ltl lot i))).map (stepL (nsR m n) (ltl lot i))
  | 0, _ => rfl
  | i + 1, h => by
    have ih := plc_ltl (m := m) (n := n) (lot := lot) i (by omega)
    unfold plc
    rw [ltl_succ]
    by_cases q : i ∈ lot
    · rw [if_pos q, if_pos q, ih, at_snoc (m := m) (n := n) (show i < n by omega), setS_app]
      unfold setR
      rw [List.flatMap_map, List.map_flatMap]
      refine flat_congr fun r hr => ?_
      rw [List.map_map, Int.toNat_natCast]
      refine List.map_congr_left fun c _ => ?_
      have lr := set_len _ r hr
      show _ = stepL (nsR m n) (ltl lot i ++ [i]) (r ++ [(c : Int)])
      rw [step_snoc (by rw [lr, atL, List.length_map])]
    · rw [if_neg q, if_neg q, ih]
/-- the places of a lot's contents -/
theorem plc_set {m n : Nat} {lot : List Nat} (asc : lot.Pairwise (· < ·)) (lt : ∀ i ∈ lot, i < n) : plc m n lot n = (setS (atL (nsR m n) lot)).map (stepL (nsR m n) lot) := by
  rw [plc_ltl n (Nat.le_refl n), asc_ltl asc lt]
end K83
set_option linter.all false
namespace K83
open PySem PySem.Spec PyProof.Rows L2 DL
local macro_rules | `(tactic| walk_at "w") => `(tactic| conv => whnf)
theorem filter_iff {α : Type} {p q : α → Bool} {l : List α} : l.filter p = l.filter q ↔ ∀ x ∈ l, p x = q x := by
  constructor
  · intro e x hx
    have h : x ∈ l.filter p ↔ x ∈ l.filter q := by rw [e]
    rw [List.mem_filter, List.mem_filter] at h
    cases hp : p x <;> cases hq : q x <;> simp_all
  · exact fun h => List.filter_congr h
/-- the others' places at which a content brings a mark -/
def left2 (m n : Nat) (ks : List Int) (lot : List Nat) (mk : Int) (a : List Int) : List Int := ((setS (atL (nsR m n) (restL n lot))).map (stepL (nsR m n) (restL n lot))).filter fun pl => decide (ks.getD (pl + stepL (nsR m n) lot a).toNat 0 = mk)
theorem left2_iff {m n : Nat} {ks : List Int} {lot : List Nat} {mk : Int} {a a' : List Int} : left2 m n ks lot mk a = left2 m n ks lot mk a' ↔ leftL m n ks lot mk a = leftL m n ks lot mk a' := by
  unfold left2 leftL
  rw [filter_iff]
  constructor
  · intro h
    refine List.map_congr_left fun b hb => ?_
    have := h _ (List.mem_map.mpr ⟨b, hb, rfl⟩)
    unfold lmV
    rw [List.length_replicate, Int.add_comm, Int.add_comm (stepL (nsR m n) lot a')]
    exact this
  · intro h x hx
    obtain ⟨b, hb, rfl⟩ := List.mem_map.mp hx
    have := map_eq_at h b hb
    unfold lmV at this
    rw [List.length_replicate, Int.add_comm, Int.add_comm (stepL (nsR m n) lot a')] at this
    exact this
def intK (xs : List Int) : NestedKey := .tup (xs.map .num)
theorem intK_is : ∀ xs : List Int, NKs (xs.map D.int) (xs.map .num)
  | [] => .nil
  | b :: bs => .cons (.int b) (intK_is bs)
theorem intK_key (xs : List Int) : KeyP (xs.map D.int, intK xs) := ⟨.tup (intK_is xs), by
  have := flat_depth (xs.map .num) fun k hk => by
    obtain ⟨b, _, rfl⟩ := List.mem_map.mp hk
    simp [NestedKey.depth]
  show NestedKey.depthAll _ + 1 ≤ 8
  rw [this]
  decide⟩
theorem intK_inj {a b : List Int} (h : intK a = intK b) : a = b := by
  unfold intK at h
  have h := NestedKey.tup.inj h
  exact (List.map_inj_right fun x y e => NestedKey.num.inj e).mp h
theorem kk_two {m n : Nat} {ks : List Int} {lot : List Nat} {mk : Int} : nums ((setS (atL (nsR m n) lot)).map fun a => intK (left2 m n ks lot mk a)) = kkL m n ks lot mk :=
  (nums_same _ _ _ fun a _ b _ => ⟨fun h => left2_iff.mp (intK_inj h), fun h => by rw [left2_iff.mpr h]⟩).1
/-- what numbers so far -/
theorem nums_take {α : Type} [DecidableEq α] {xs : List α} {j : Nat} {x : α} (h : xs[j]? = some x) : (nums xs)[j]? = some ((dd (xs.take (j + 1))).idxOf x) := by
  unfold nums
  rw [List.getElem?_map, h]
  show some ((dd xs).idxOf x) = _
  have e : xs = xs.take (j + 1) ++ xs.drop (j + 1) := (List.take_append_drop ..).symm
  have hm : x ∈ xs.take (j + 1) := by
    rw [List.take_add_one, h]
    simp
  conv => lhs; rw [e]
  rw [dd_idx hm]
theorem lot_ok {m n : Nat} {lot : List Nat} (asc : lot.Pairwise (· < ·)) (lt : ∀ i ∈ lot, i < n) : LotOk (nsR m n).length lot := by
  rw [List.length_replicate]
  exact ⟨asc.imp fun h => Nat.ne_of_lt h, lt⟩
theorem mk_at {m n : Nat} {ks a b : List Int} {lot : List Nat} (B : Mk m n ks) (asc : lot.Pairwise (· < ·)) (lt : ∀ i ∈ lot, i < n) (ia : IsS (atL (nsR m n) lot) a) (ib : IsS (atL (nsR m n) (restL n lot)) b) :
    atI (ks.map D.int) (stepL (nsR m n) (restL n lot) b + stepL (nsR m n) lot a) = some (.int (lmV (nsR m n) ks lot a b)) := by
  have lo := lot_ok (m := m) asc lt
  obtain ⟨b1, b2⟩ := lm_bound B.bd.n1 lo ia (by rw [List.length_replicate]; exact ib)
  rw [List.length_replicate] at b1 b2
  have b1 : (0 : Int) ≤ stepL (nsR m n) lot a + stepL (nsR m n) (restL n lot) b := b1
  have b2 : stepL (nsR m n) lot a + stepL (nsR m n) (restL n lot) b < prodI (nsR m n) := b2
  have hl : ks.length = (prodI (nsR m n)).toNat := B.bd.len
  rw [Int.add_comm]
  have en : (((stepL (nsR m n) lot a + stepL (nsR m n) (restL n lot) b).toNat : Nat) : Int) = stepL (nsR m n) lot a + stepL (nsR m n) (restL n lot) b := Int.toNat_of_nonneg b1
  have g1 := atI_nat (ints_getD (ns := ks) (i := (stepL (nsR m n) lot a + stepL (nsR m n) (restL n lot) b).toNat) (by rw [hl]; omega))
  rw [en] at g1
  rw [g1]
  unfold lmV
  rw [List.length_replicate]
section
variable {P₀ : Program} {w : World} {K : PySem.W.Frag} {mg : Str → Option Value} {base : Heap} {C_Board C_BoardError C_InvalidBoard C_InvalidSetting C_InvalidSize C_InvalidLot C_Refused : Addr}
def sp_lkinds : DSp := fun ds M Q _ => ∃ (m n : Nat) (e d : D) (ks : List Int) (lot : List Nat) (mk : Int), ds = [.int m, .int n, e, d, .int mk] ∧ SqD M e (ks.map D.int) ∧ SqD M d (natD lot) ∧ Mk m n ks ∧ lot.Pairwise (· < ·) ∧ (∀ i ∈ lot, i < n) ∧ ∀ M', Les M M' → Q (.tup (natD (kkL m n ks lot mk))) M'
end
end K83
set_option linter.all false
namespace K83
open PySem PySem.Spec PyProof.Rows L2 DL
local macro_rules | `(tactic| walk_at "w") => `(tactic| conv => whnf)
/-- how the contents' marks are alike beside others' contents -/
def rowN (m n : Nat) (ks : List Int) (lot : List Nat) (b : List Int) : List Nat := nums ((setS (atL (nsR m n) lot)).map fun a => lmV (nsR m n) ks lot a b)
def testB (m n : Nat) (ks : List Int) (lot : List Nat) : Bool := (setS (atL (nsR m n) (restL n lot))).all fun b => decide (rowN m n ks lot b = rowN m n ks lot ((setS (atL (nsR m n) (restL n lot))).headD []))
def rowK (m n : Nat) (ks : List Int) (lot : List Nat) (b : List Int) : List Key := (setS (atL (nsR m n) lot)).map fun a => .inl (lmV (nsR m n) ks lot a b)
theorem rowK_n {m n : Nat} {ks : List Int} {lot : List Nat} {b : List Int} : nums (rowK m n ks lot b) = rowN m n ks lot b :=
  (nums_same (fun a => (.inl (lmV (nsR m n) ks lot a b) : Key)) (fun a => lmV (nsR m n) ks lot a b) _ fun a _ c _ => ⟨fun h => Sum.inl.inj h, fun h => by rw [h]⟩).1
theorem natD_int (xs : List Nat) : natD xs = (xs.map fun (i : Nat) => (i : Int)).map D.int := by rw [List.map_map]; rfl
theorem nat_inj {xs ys : List Nat} : (xs.map fun (i : Nat) => (i : Int)) = (ys.map fun (i : Nat) => (i : Int)) ↔ xs = ys := List.map_inj_right fun a b e => Int.ofNat.inj e
theorem ne_refs {M : DHp} {a b : Addr} {xs ys : List Nat} {Q : Bool → DHp → Prop} (ha : M a = some (.lst (natD xs))) (hb : M b = some (.lst (natD ys))) (q : Q (!decide (xs = ys)) M) : neD (.ref a) (.ref b) M Q := by
  rw [natD_int] at ha hb
  refine ⟨_, _, .lst (.inl ha) (pd_ints _), .lst (.inl hb) (pd_ints _), shaped_li _, shaped_li _, ?_⟩
  rw [if_pos rfl, PyData.eqv, eqv_ints]
  have e : decide ((xs.map fun (i : Nat) => (i : Int)) = (ys.map fun (i : Nat) => (i : Int))) = decide (xs = ys) := decide_eq_decide.mpr nat_inj
  rw [e]
  exact q
theorem eq_refs {M : DHp} {a b : Addr} {xs ys : List Nat} {Q : Bool → DHp → Prop} (ha : M a = some (.lst (natD xs))) (hb : M b = some (.lst (natD ys))) (q : Q (decide (xs = ys)) M) : eqD (.ref a) (.ref b) M Q := by
  rw [natD_int] at ha hb
  refine ⟨_, _, .lst (.inl ha) (pd_ints _), .lst (.inl hb) (pd_ints _), shaped_li _, shaped_li _, ?_⟩
  rw [if_neg Bool.false_ne_true, PyData.eqv, eqv_ints]
  have e : decide ((xs.map fun (i : Nat) => (i : Int)) = (ys.map fun (i : Nat) => (i : Int))) = decide (xs = ys) := decide_eq_decide.mpr nat_inj
  rw [e]
  exact q
abbrev ciI (xs : List Nat) : List Int := xs.map fun (i : Nat) => (i : Int)
theorem at_ci {M : DHp} {a : Addr} {xs : List Nat} (h : M a = some (.lst (natD xs))) : M a = some (.lst ((ciI xs).map D.int)) := by rw [natD_int] at h; exact h
theorem eqv_ci (xs ys : List Nat) : PyData.eqv (.list ((ciI xs).map PyData.int)) (.list ((ciI ys).map PyData.int)) = decide (xs = ys) := by
  rw [PyData.eqv, eqv_ints]
  exact decide_eq_decide.mpr nat_inj
section
variable {P₀ : Program} {w : World} {K : PySem.W.Frag} {mg : Str → Option Value} {base : Heap} {C_Board C_BoardError C_InvalidBoard C_InvalidSetting C_InvalidSize C_InvalidLot C_Refused : Addr}
abbrev s__law_is_tested : Stmt := top 58
abbrev N__law_is_tested : List Str := ["many", "size", "marks", "lot", "inside", "first", "place", "seen", "row", "part", "near"]
abbrev P__law_is_tested : List Str := ["many", "size", "marks", "lot"]
theorem sc__law_is_tested : FnScope N__law_is_tested P__law_is_tested (defScope s__law_is_tested) := ⟨rfl, rfl, rfl, by decide +kernel, rfl, by decide +kernel, by decide +kernel⟩
def sp_ltst : DSp := fun ds M Q _ => ∃ (m n : Nat) (e d : D) (ks : List Int) (lot : List Nat), ds = [.int m, .int n, e, d] ∧ SqD M e (ks.map D.int) ∧ SqD M d (natD lot) ∧ Mk m n ks ∧ lot.Pairwise (· < ·) ∧ (∀ i ∈ lot, i < n) ∧ ∀ M', Les M M' → Q (.bl (testB m n ks lot)) M'
theorem ok_ltst {f : Addr} {fd : FuncData} (Dd : Df K mg "_law_is_tested" s__law_is_tested f fd P__law_is_tested) (Z : Zs mg) (G__law_places : Cal P₀ w K mg base "_law_places" 1 sp_plc) : Cal P₀ w K mg base "_law_is_tested" 2 sp_ltst := by
  refine Dd.cal sc__law_is_tested (fun ds M P PE h => ?_) (fun cdv A outer s H E ds M P PE hr tk h => ⟨_, (dss_cons (ds_set 4 sc__law_is_tested.nd (de_call G__law_places (hr.mono (by decide)) tk (da_cons (de_var 0) (da_cons (de_var 1) (da_cons (de_var 3) da_nil)))))
    (dss_cons (ds_set 5 sc__law_is_tested.nd (de_lst da_nil))
    (dss_cons (ds_for (passes_of rfl) (di_sq (de_call G__law_places (hr.mono (by decide)) tk (da_cons (de_var 0) (da_cons (de_var 1) (da_cons (de_lc sc__law_is_tested.nd (own := [("part", 9)]) (di_rg1 Z.rng (de_var 1)) (blkOk_by (N := N__law_is_tested) (sc := defScope s__law_is_tested) (by decide +kernel)) (ct_name 9)
      (fun _ _ _ _ _ => (pg_name (i := 9) sc__law_is_tested.nd rfl (.inl rfl))) (fun _ _ _ _ _ => (dts_one (dt_cmp (or_notin hr) (de_var 9) (de_var 3)))) (fun _ _ _ _ _ => (de_var 9))) da_nil))))) (dg_name 6 sc__law_is_tested.nd) (dss_cons (ds_set 7 sc__law_is_tested.nd (de_dnewN (P := P₀) (w := w) rfl rfl))
    (dss_cons (ds_setLc 8 sc__law_is_tested.nd (own := [("near", 10)]) (di_sq (de_var 4)) (blkOk_by (N := N__law_is_tested) (sc := defScope s__law_is_tested) (by decide +kernel)) (ct_name 10)
      (fun _ _ _ _ _ => (pg_name (i := 10) sc__law_is_tested.nd rfl (.inl rfl))) (fun _ _ _ _ _ => dts_nil) (fun _ _ _ _ _ => (de_setdN (P := P₀) (w := w) rfl rfl hr (de_var 7) (de_ix (de_var 2) (de_op or_add (de_var 6) (de_var 10))) (de_fnB (cr_len2N (P := P₀) (w := w) rfl rfl) Z.len (da_cons (de_var 7) da_nil)) ⟨rfl, rfl, rfl, rfl⟩)))
    (dss_cons (ds_if (dt_cmp (or_eq hr.r.units) (de_var 5) (de_lst da_nil)) (dss_one (ds_set 5 sc__law_is_tested.nd (de_var 8))) dss_nil)
    (dss_one (ds_if (dt_cmp (or_ne hr.r.units) (de_var 8) (de_var 5)) (dss_one (ds_ret de_bl)) dss_nil))))))
    (dss_one (ds_ret de_bl))))), ?_⟩)
  · obtain ⟨_, _, _, _, _, _, rfl, _⟩ := h
    rfl
  · obtain ⟨m, n, e, d, ks, lot, rfl, he, hd, B, asc, lt, qq⟩ := h
    have m2 := B.m2
    have m8 := B.m8
    have n4 := B.n4
    have sm := B.sm
    have lo := lot_ok (m := m) asc lt
    have pl := prod_lot lo B.bd.n1
    have pr := prod_lot (rest_ok (nsR m n).length lot) B.bd.n1
    have bp : prodI (nsR m n) ≤ 20000 := B.bd.pr
    have la := set_length (ns := atL (nsR m n) lot) (at_n lo B.bd.n1)
    have lb := set_length (ns := atL (nsR m n) (restL (nsR m n).length lot)) (at_n (rest_ok (nsR m n).length lot) B.bd.n1)
    have pa1 := prod_pos (ns := atL (nsR m n) lot) (at_n lo B.bd.n1)
    rw [show (nsR m n).length = n from List.length_replicate ..] at pr lb
    have rn0 : ∀ b, rowN m n ks lot b ≠ [] := fun b e => by
      have := congrArg List.length e
      simp [rowN, nums] at this
      have e0 : (setS (atL (nsR m n) lot)).length = 0 := by rw [this]; rfl
      omega
    walk_at "w"
    refine ⟨m, n, d, lot, rfl, hd, m2, m8, n4, sm, fun i M1 L1 hi fi => ?_⟩
    rw [plc_set asc lt] at fi
    walk_at "w"
    refine ⟨Nat.zero_le _, fun f0 hf => ?_⟩
    have Lf := les_new (o := .lst []) hf
    have ff : upM M1 f0 (.lst []) f0 = some (.lst []) := upM_same
    have fi2 := Lf _ _ fi
    have L2 := L1.trans Lf
    generalize upM M1 f0 (.lst []) = M2 at Lf ff fi2 L2 ⊢
    walk_at "w"
    refine ⟨n, rfl, ⟨by omega, by omega⟩, ?_⟩
    have hd2 := hd.les L2
    refine ⟨fun j acc M' => M' = M2 ∧ acc = natD ((List.range j).filter fun i => !decide (i ∈ lot)), ⟨_, .refl _, rfl, rfl⟩, fun _ _ _ _ _ => trivial, ?_, ?_⟩
    · rintro j u acc M' hu ⟨rfl, rfl⟩
      obtain ⟨hj, rfl⟩ := rg_at hu
      walk_at "w"
      refine ⟨.int (j : Nat), natD lot, _, .int _, hd2, pds_nat lot, shaped_int _, shaped_nat lot, ?_⟩
      rw [if_pos rfl, any_nat]
      refine ifB_mk (fun h => ?_) (fun h => ?_)
      · walk_at "w"
        have le := List.length_filter_le (fun i => !decide (i ∈ lot)) (List.range j)
        rw [List.length_range] at le
        refine ⟨size_ok (by rw [List.length_map]; omega), _, .refl _, rfl, ?_⟩
        rw [List.range_succ, List.filter_append, natD, natD, List.map_append]
        congr 1
        have h : (!decide (j ∈ lot)) = true := h
        rw [List.filter_cons_of_pos (p := fun i => !decide (i ∈ lot)) h]
        rfl
      · refine ⟨_, .refl _, rfl, ?_⟩
        rw [List.range_succ, List.filter_append, List.filter_cons_of_neg (p := fun i => !decide (i ∈ lot)) (by rw [h]; decide), List.filter_nil, List.append_nil]
    · rintro acc M' ⟨rfl, rfl⟩ r hr
      rw [rg_len, show (List.range n).filter (fun i => !decide (i ∈ lot)) = restL n lot from rfl]
      have Lr := les_new (o := .lst (natD (restL n lot))) hr
      have fr : upM M' r (.lst (natD (restL n lot))) r = some (.lst (natD (restL n lot))) := upM_same
      generalize upM M' r (.lst (natD (restL n lot))) = M3 at Lr fr ⊢
      walk_at "w"
      refine ⟨m, n, .ref r, restL n lot, rfl, .ref fr, m2, m8, n4, sm, fun g M4 L4 hg fg => ?_⟩
      rw [plc_set (rest_asc n lot) fun i hi => (mem_rest.mp hi).1] at fg
      have L24 := Lr.trans L4
      have fi4 := L24 _ _ fi2
      have ff4 := L24 _ _ ff
      have L14 := L2.trans L24
      walk_at "w"
      refine ⟨_, .ref fg, fun j s M' => Les M4 M' ∧ (∃ f x6 x7 x8 x9 x10, s = [some (.int m), some (.int n), some e, some d, some (.ref i), some (.ref f), x6, x7, x8, x9, x10] ∧ M' f = some (.lst (natD (if j = 0 then [] else rowN m n ks lot ((setS (atL (nsR m n) (restL n lot))).headD []))))) ∧ ((setS (atL (nsR m n) (restL n lot))).take j).all (fun b => decide (rowN m n ks lot b = rowN m n ks lot ((setS (atL (nsR m n) (restL n lot))).headD []))) = true, .of ⟨.refl _, ⟨f0, _, _, _, _, _, rfl, ff4⟩, rfl⟩, fun j s M' _ ⟨l, _⟩ => .ref (l _ _ fg), ?_, ?_⟩
      · rintro j u s M5 hu ⟨L5, ⟨f, x6, x7, x8, x9, x10, rfl, hf5⟩, al⟩
        rw [List.getElem?_map, List.getElem?_map] at hu
        obtain ⟨v, hv, rfl⟩ := Option.map_eq_some_iff.mp hu
        obtain ⟨b, hb, rfl⟩ := Option.map_eq_some_iff.mp hv
        have hj := (List.getElem?_eq_some_iff.mp hb).1
        have ib := mem_setS.mp (List.mem_of_getElem? hb)
        walk_at "w"
        refine .inr fun z hz => ?_
        have Lz := les_new (o := .dki []) hz
        have fz : upM M5 z (.dki []) z = some (.dki []) := upM_same
        have fi5 := (L5.trans Lz) _ _ fi4
        have he5 := he.les (L14.trans (L5.trans Lz))
        generalize upM M5 z (.dki []) = M6 at Lz fz fi5 he5 ⊢
        have hiz : i ≠ z := fun e => by rw [e] at fi4; have := L5 _ _ fi4; rw [hz] at this; cases this
        have rkn := rowK_n (m := m) (n := n) (ks := ks) (lot := lot) (b := b)
        have lrk : (rowK m n ks lot b).length = (setS (atL (nsR m n) lot)).length := by rw [rowK, List.length_map]
        walk_at "w"
        refine ⟨_, .ref fi5, fun k acc M' => Les M5 M' ∧ M' i = some (.lst (((setS (atL (nsR m n) lot)).map (stepL (nsR m n) lot)).map D.int)) ∧ M' z = some (.dki (ddD ((rowK m n ks lot b).take k))) ∧ acc = natD ((nums (rowK m n ks lot b)).take k), ⟨_, .refl _, Lz, fi5, fz, rfl⟩, fun k acc M' _ ⟨_, h, _⟩ => .ref h, ?_, ?_⟩
        · rintro k u acc M' hu ⟨L7, fi7, fz7, rfl⟩
          rw [List.getElem?_map, List.getElem?_map] at hu
          obtain ⟨v, hv, rfl⟩ := Option.map_eq_some_iff.mp hu
          obtain ⟨a, ha, rfl⟩ := Option.map_eq_some_iff.mp hv
          have hk := (List.getElem?_eq_some_iff.mp ha).1
          have ia := mem_setS.mp (List.mem_of_getElem? ha)
          have ek : (rowK m n ks lot b)[k]? = some (.inl (lmV (nsR m n) ks lot a b)) := by rw [rowK, List.getElem?_map, ha]; rfl
          have e1 : (rowK m n ks lot b).take (k + 1) = (rowK m n ks lot b).take k ++ [.inl (lmV (nsR m n) ks lot a b)] := by rw [List.take_add_one, ek]; rfl
          have en := nums_take ek
          have ll : (dd ((rowK m n ks lot b).take k)).length ≤ k := by
            have := dd_len ((rowK m n ks lot b).take k)
            rw [List.length_take] at this
            omega
          have he7 := he.les (L14.trans (L5.trans L7))
          walk_at "w"
          refine ⟨⟨z, rfl, .inr ⟨_, fz7⟩⟩, ?_⟩
          refine .inl ⟨_, _, _, he7, rfl, mk_at B asc lt ia ib, ?_⟩
          refine .inr ⟨z, rfl, .inr ⟨_, fz7, ?_⟩⟩
          refine ⟨z, rfl, .inr ⟨_, .inl (lmV (nsR m n) ks lot a b), fz7, rfl, ?_, fun v hv => ?_, fun hv => ?_⟩⟩
          · rw [ddD_len]
            exact Nat.lt_of_le_of_lt (show _ ≤ 100000 by omega) (by decide)
          · rw [lk_ddD] at hv
            by_cases q : (.inl (lmV (nsR m n) ks lot a b) : Key) ∈ (rowK m n ks lot b).take k
            · rw [if_pos q] at hv
              cases hv
              refine ⟨size_ok (by simp [nums]; omega), _, .refl _, L7, fi7, ?_, ?_⟩
              · rw [e1, ddD_old q]
                exact fz7
              · rw [List.take_add_one, en, e1, dd_idx q]
                simp [natD]
            · rw [if_neg q] at hv
              cases hv
          · rw [lk_ddD] at hv
            by_cases q : (.inl (lmV (nsR m n) ks lot a b) : Key) ∈ (rowK m n ks lot b).take k
            · rw [if_pos q] at hv
              cases hv
            · refine ⟨size_ok (by simp [nums]; omega), _, .refl _, L7.up hz, up_ne fi7 hiz, ?_, ?_⟩
              · rw [e1, ddD_new q, ← ddD_len]
                exact upM_same
              · rw [List.take_add_one, en, e1, dd_new q, ddD_len]
                simp [natD]
        · rintro acc M' ⟨L7, fi7, fz7, rfl⟩ h hh
          rw [List.length_map, List.length_map, ← lrk, List.take_of_length_le (by simp [nums]), rkn]
          have Lh := les_new (o := .lst (natD (rowN m n ks lot b))) hh
          have fh : upM M' h (.lst (natD (rowN m n ks lot b))) h = some (.lst (natD (rowN m n ks lot b))) := upM_same
          have L8 := L7.trans Lh
          generalize upM M' h (.lst (natD (rowN m n ks lot b))) = M8 at Lh fh L8 ⊢
          walk_at "w"
          refine ⟨Nat.zero_le _, fun p hp => ?_⟩
          have Lp := les_new (o := .lst []) hp
          have fp : upM M8 p (.lst []) p = some (.lst (natD [])) := upM_same
          have fh9 := Lp _ _ fh
          have L9 := L8.trans Lp
          have ff9 := L9 _ _ hf5
          generalize upM M8 p (.lst []) = M9 at Lp fp fh9 L9 ff9 ⊢
          refine eq_refs ff9 fp ?_
          have sj : (setS (atL (nsR m n) (restL n lot))).take (j + 1) = (setS (atL (nsR m n) (restL n lot))).take j ++ [b] := by rw [List.take_add_one, hb]; rfl
          refine ifB_mk (fun h1 => ?_) (fun h1 => ?_)
          · have h1 := of_decide_eq_true h1
            have j0 : j = 0 := by
              refine Classical.byContradiction fun q => ?_
              rw [if_neg q] at h1
              exact rn0 _ h1
            subst j0
            have eb : (setS (atL (nsR m n) (restL n lot))).headD [] = b := by
              cases e : setS (atL (nsR m n) (restL n lot)) with
              | nil => rw [e] at hb; cases hb
              | cons x l => rw [e] at hb; exact Option.some.inj hb
            walk_at "w"
            refine ⟨_, _, .lst (.inl (at_ci fh9)) (pd_ints _), .lst (.inl (at_ci fh9)) (pd_ints _), shaped_li _, shaped_li _, ?_⟩
            rw [if_pos rfl, eqv_ci]
            refine ifB_f (by simp) ?_
            refine .of ⟨L5.trans L9, ⟨h, _, _, _, _, _, rfl, ?_⟩, ?_⟩
            · rw [if_neg (Nat.succ_ne_zero _), eb]
              exact fh9
            · rw [sj, eb]
              simp
          · have h1 := of_decide_eq_false h1
            have j0 : j ≠ 0 := fun q => h1 (by rw [if_pos q])
            rw [if_neg j0] at ff9
            walk_at "w"
            refine ⟨_, _, .lst (.inl (at_ci fh9)) (pd_ints _), .lst (.inl (at_ci ff9)) (pd_ints _), shaped_li _, shaped_li _, ?_⟩
            rw [if_pos rfl, eqv_ci]
            refine ifB_mk (fun h2 => ?_) (fun h2 => ?_)
            · have h2 : ¬ rowN m n ks lot b = rowN m n ks lot ((setS (atL (nsR m n) (restL n lot))).headD []) := by simpa using h2
              walk_at "w"
              have q := qq M9 (L14.trans (L5.trans L9))
              have tf : testB m n ks lot = false := by
                refine List.all_eq_false.mpr ⟨b, List.mem_of_getElem? hb, ?_⟩
                rw [decide_eq_false h2]
                decide
              rw [tf] at q
              exact Lk.of q
            · have h2 : rowN m n ks lot b = rowN m n ks lot ((setS (atL (nsR m n) (restL n lot))).headD []) := by simpa using h2
              refine .of ⟨L5.trans L9, ⟨f, _, _, _, _, _, rfl, ?_⟩, ?_⟩
              · rw [if_neg (Nat.succ_ne_zero _)]
                exact ff9
              · rw [sj, List.all_append, al]
                simp [h2]
      · rintro s M5 ⟨L5, ⟨f, x6, x7, x8, x9, x10, rfl, hf5⟩, al⟩
        rw [List.length_map, List.length_map, List.take_length] at al
        have q := qq M5 (L14.trans L5)
        unfold testB at q
        rw [al] at q
        walk_at "w"
        exact Lk.of q
end
end K83
set_option linter.all false
namespace K83
open PySem PySem.Spec PyProof.Rows L2 DL
local macro_rules | `(tactic| walk_at "w") => `(tactic| conv => whnf)
/-- all lots of parts below n, in the order in which they are found -/
def allL : Nat → List (List Nat)
  | 0 => [[]]
  | n + 1 => allL n ++ (allL n).map fun l => l ++ [n]
theorem all_first : ∀ n, ∃ r, allL n = [] :: r
  | 0 => ⟨[], rfl⟩
  | n + 1 => by
    obtain ⟨r, e⟩ := all_first n
    exact ⟨_, by unfold allL; rw [e]; rfl⟩
theorem all_len : ∀ n, (allL n).length = 2 ^ n
  | 0 => rfl
  | n + 1 => by
    unfold allL
    rw [List.length_append, List.length_map, all_len n, Nat.pow_succ]
    omega
theorem all_ok : ∀ n, ∀ l ∈ allL n, l.Pairwise (· < ·) ∧ ∀ i ∈ l, i < n
  | 0, l, h => by
    rw [List.mem_singleton.mp h]
    exact ⟨.nil, fun i hi => nomatch hi⟩
  | n + 1, l, h => by
    unfold allL at h
    rcases List.mem_append.mp h with h | h
    · obtain ⟨a, b⟩ := all_ok n l h
      exact ⟨a, fun i hi => Nat.lt_succ_of_lt (b i hi)⟩
    · obtain ⟨l', h', rfl⟩ := List.mem_map.mp h
      obtain ⟨a, b⟩ := all_ok n l' h'
      refine ⟨List.pairwise_append.mpr ⟨a, List.pairwise_singleton .., fun x hx y hy => ?_⟩, fun i hi => ?_⟩
      · rw [List.mem_singleton.mp hy]
        exact b x hx
      · rcases List.mem_append.mp hi with hi | hi
        · exact Nat.lt_succ_of_lt (b i hi)
        · rw [List.mem_singleton.mp hi]
          exact Nat.lt_succ_self n
theorem all_once : ∀ n, ((allL n).filter (· = [])).length = 1
  | 0 => rfl
  | n + 1 => by
    unfold allL
    rw [List.filter_append, List.length_append, all_once n]
    have : ((allL n).map fun l => l ++ [n]).filter (· = []) = [] := by
      rw [List.filter_eq_nil_iff]
      intro l hl
      obtain ⟨l', _, rfl⟩ := List.mem_map.mp hl
      simp
    rw [this]
    rfl
/-- some lots of parts below n, none of them empty -/
def LotsP (n : Nat) (ls : List (List Nat)) : Prop := ∀ l ∈ ls, l ≠ [] ∧ l.Pairwise (· < ·) ∧ ∀ i ∈ l, i < n
abbrev cI (l : List Nat) : List Int := l.map fun (i : Nat) => (i : Int)
theorem cI_inj {a b : List Nat} : cI a = cI b ↔ a = b := List.map_inj_right fun a b e => Int.ofNat.inj e
theorem cI_nil {a : List Nat} : cI a = [] ↔ a = [] := by simp
theorem lots_D (ls : List (List Nat)) : (ls.map cI).map tpI = ls.map fun l => D.tup (natD l) := by
  rw [List.map_map]
  refine List.map_congr_left fun l _ => ?_
  show D.tup ((l.map fun (i : Nat) => (i : Int)).map D.int) = _
  rw [List.map_map]
  rfl
/-- sorted, but for the first -/
theorem lots_sorted {n : Nat} {nss : List (List Int)} (pm : nss.Perm ((allL n).map cI)) (so : nss.Pairwise fun x y => HT.lexLt y x = false) : ∃ ls, nss = ([] :: ls).map cI ∧ LotsP n ls ∧ ls.length + 1 = 2 ^ n := by
  obtain ⟨ls, rfl⟩ : ∃ ls : List (List Nat), nss = ls.map cI := by
    refine ⟨nss.map fun l => l.map Int.toNat, ?_⟩
    rw [List.map_map]
    conv => lhs; rw [← List.map_id nss]
    refine List.map_congr_left fun l hl => ?_
    obtain ⟨l', _, rfl⟩ := List.mem_map.mp (pm.mem_iff.mp hl)
    show cI l' = cI ((cI l').map Int.toNat)
    rw [List.map_map]
    congr 1
    conv => lhs; rw [← List.map_id l']
    exact List.map_congr_left fun i _ => (Int.toNat_natCast i).symm
  have mem : ∀ l, l ∈ ls ↔ l ∈ allL n := fun l => by
    have := pm.mem_iff (a := cI l)
    rw [List.mem_map, List.mem_map] at this
    constructor
    · intro h
      obtain ⟨x, hx, e⟩ := this.mp ⟨l, h, rfl⟩
      rw [← cI_inj.mp e]; exact hx
    · intro h
      obtain ⟨x, hx, e⟩ := this.mpr ⟨l, h, rfl⟩
      rw [← cI_inj.mp e]; exact hx
  have ln : ls.length = 2 ^ n := by
    have := pm.length_eq
    rw [List.length_map, List.length_map, all_len] at this
    exact this
  have cn : (ls.filter (· = [])).length = 1 := by
    have h := (pm.filter (fun l : List Int => decide (l = []))).length_eq
    rw [List.filter_map, List.filter_map, List.length_map, List.length_map] at h
    have f1 : ((fun l : List Int => decide (l = [])) ∘ cI) = fun l : List Nat => decide (l = []) := by
      funext l
      exact decide_eq_decide.mpr cI_nil
    rw [f1, all_once] at h
    exact h
  cases ls with
  | nil =>
    obtain ⟨r, e⟩ := all_first n
    have := (mem []).mpr (by rw [e]; exact List.mem_cons_self)
    cases this
  | cons l ls =>
    have l0 : l = [] := by
      refine Classical.byContradiction fun q => ?_
      obtain ⟨r, e⟩ := all_first n
      have h := (mem []).mpr (by rw [e]; exact List.mem_cons_self)
      rcases List.mem_cons.mp h with h | h
      · exact q h.symm
      · have p := (List.pairwise_cons.mp so).1 (cI []) (List.mem_map.mpr ⟨[], h, rfl⟩)
        cases l with
        | nil => exact q rfl
        | cons a b => cases p
    subst l0
    have no : ∀ l ∈ ls, l ≠ [] := fun l hl e => by
      subst e
      rw [List.filter_cons_of_pos (by simp), List.length_cons] at cn
      have : [] ∈ ls.filter (· = []) := List.mem_filter.mpr ⟨hl, by simp⟩
      have := List.length_pos_of_mem this
      omega
    refine ⟨ls, rfl, fun l hl => ⟨no l hl, all_ok n l ((mem l).mp (List.mem_cons_of_mem _ hl))⟩, ?_⟩
    rw [List.length_cons] at ln
    omega
section
variable {P₀ : Program} {w : World} {K : PySem.W.Frag} {mg : Str → Option Value} {base : Heap} {C_Board C_BoardError C_InvalidBoard C_InvalidSetting C_InvalidSize C_InvalidLot C_Refused : Addr}
abbrev s__law_lots : Stmt := top 59
abbrev N__law_lots : List Str := ["many", "found", "part", "lot"]
abbrev P__law_lots : List Str := ["many"]
theorem sc__law_lots : FnScope N__law_lots P__law_lots (defScope s__law_lots) := ⟨rfl, rfl, rfl, by decide +kernel, rfl, by decide +kernel, by decide +kernel⟩
def sp_llots : DSp := fun ds M Q _ => ∃ (n : Nat), ds = [.int n] ∧ n ≤ 4 ∧ ∀ q M' (ls : List (List Nat)), Les M M' → M q = none → M' q = some (.lst (ls.map fun l => .tup (natD l))) → LotsP n ls → ls.length + 1 = 2 ^ n → Q (.ref q) M'
theorem ok_llots {f : Addr} {fd : FuncData} (Dd : Df K mg "_law_lots" s__law_lots f fd P__law_lots) (Z : Zs mg) : Cal P₀ w K mg base "_law_lots" 1 sp_llots := by
  refine Dd.cal sc__law_lots (fun ds M P PE h => ?_) (fun cdv A outer s H E ds M P PE hr tk h => ⟨_, (dss_cons (ds_set 1 sc__law_lots.nd (de_lst (da_cons (de_tup da_nil) da_nil)))
    (dss_cons (ds_for (passes_of rfl) (di_rg1 Z.rng (de_var 0)) (dg_name 2 sc__law_lots.nd) (dss_one (ds_set 1 sc__law_lots.nd (de_op or_add (de_var 1) (de_lc sc__law_lots.nd (own := [("lot", 3)]) (di_sq (de_var 1)) (blkOk_by (N := N__law_lots) (sc := defScope s__law_lots) (by decide +kernel)) (ct_name 3)
      (fun _ _ _ _ _ => (pg_name (i := 3) sc__law_lots.nd rfl (.inl rfl))) (fun _ _ _ _ _ => dts_nil) (fun _ _ _ _ _ => (de_op or_add (de_var 3) (de_tup (da_cons (de_var 2) da_nil)))))))))
    (dss_one (ds_ret (de_sl (de_fnB (cr_srtT hr) Z.sorted (da_cons (de_var 1) da_nil)) (dpo_some de_int) dpo_none))))), ?_⟩)
  · obtain ⟨_, rfl, _⟩ := h
    rfl
  · obtain ⟨n, rfl, n4, qq⟩ := h
    walk_at "w"
    refine ⟨Nat.zero_le _, (by show 1 ≤ sizeLine; decide), fun a ha => ?_⟩
    have La := les_new (o := .lst [.tup []]) ha
    have fa : upM M a (.lst [.tup []]) a = some (.lst [.tup []]) := upM_same
    generalize upM M a (.lst [.tup []]) = M1 at La fa ⊢
    walk_at "w"
    refine ⟨n, rfl, ⟨by omega, by omega⟩, ?_⟩
    refine ⟨fun i s M' => Les M M' ∧ ∃ e x2 x3, s = [some (.int n), some (.ref e), x2, x3] ∧ M e = none ∧ M' e = some (.lst (((allL i).map cI).map tpI)), .of ⟨La, a, _, _, rfl, ha, fa⟩, fun _ _ _ _ _ => trivial, ?_, ?_⟩
    · rintro i x s M' hx ⟨L, e, x2, x3, rfl, me, he⟩
      have hi := (List.getElem?_eq_some_iff.mp hx).1
      rw [rgD_len] at hi
      rw [rgD_get hi] at hx
      cases hx
      have hi : i < n := by omega
      rw [Int.zero_add]
      have ln := all_len i
      have p2 : 2 ^ i ≤ 2 ^ 4 := Nat.pow_le_pow_right (by decide) (by omega)
      have se : allL (i + 1) = allL i ++ (allL i).map fun l => l ++ [i] := rfl
      have hm : ∀ l ∈ allL i, l.length ≤ 4 := fun l hl => by
        obtain ⟨a, b⟩ := all_ok i l hl
        have := pigeon (l := l) (r := List.range i) (a.imp fun h => Nat.ne_of_lt h) fun x hx => List.mem_range.mpr (b x hx)
        rw [List.length_range] at this
        omega
      generalize allL i = ls at he ln se hm
      walk_at "w"
      refine ⟨_, .ref he, fun j acc M2 => M2 = M' ∧ acc = (((ls.map fun l => l ++ [i]).take j).map cI).map tpI, ⟨_, .refl _, rfl, rfl⟩, fun j acc M2 _ ⟨h, _⟩ => h ▸ .ref he, ?_, ?_⟩
      · rintro j u acc M2 hu ⟨rfl, rfl⟩
        rw [List.getElem?_map, List.getElem?_map] at hu
        obtain ⟨v, hv, rfl⟩ := Option.map_eq_some_iff.mp hu
        obtain ⟨l, hl, rfl⟩ := Option.map_eq_some_iff.mp hv
        have hj := (List.getElem?_eq_some_iff.mp hl).1
        walk_at "w"
        refine ⟨(by show 1 ≤ sizeLine; decide), ?_⟩
        refine ⟨Nat.le_trans (show _ ≤ 100000 by have := hm l (List.mem_of_getElem? hl); simp; omega) (by decide), size_ok (by simp; omega), _, .refl _, rfl, ?_⟩
        rw [List.take_add_one, List.getElem?_map, hl]
        simp [cI]
      · rintro acc M2 ⟨rfl, rfl⟩ h hh
        rw [List.length_map, List.length_map, List.take_of_length_le (by rw [List.length_map]; exact Nat.le_refl _)]
        refine ⟨_, _, les_new hh _ _ he, upM_same, Nat.le_trans (show _ ≤ 100000 by simp only [List.length_map]; omega) (by decide), fun g hg => ?_⟩
        rw [← List.map_append, ← List.map_append, ← se]
        have Lh := les_new (o := .lst (((ls.map fun l => l ++ [i]).map cI).map tpI)) hh
        have Lg := les_new (o := .lst (((allL (i + 1)).map cI).map tpI)) hg
        exact .of ⟨L.trans (Lh.trans Lg), g, _, _, rfl, L.free (Lh.free hg), upM_same⟩
    · rintro s M' ⟨L, e, x2, x3, rfl, me, he⟩
      rw [rgD_len, show ((n : Int) - 0).toNat = n by omega] at he
      obtain ⟨r0, er⟩ := all_first n
      walk_at "w"
      refine ⟨e, _, rfl, .inl he, .inr ⟨r0.map cI, by rw [er]; rfl⟩, fun nss q pm so hq => ?_⟩
      obtain ⟨ls, rfl, lp, ll⟩ := lots_sorted pm so
      have p2 : 2 ^ n ≤ 2 ^ 4 := Nat.pow_le_pow_right (by decide) n4
      walk_at "w"
      refine ⟨1, rfl, ?_⟩
      refine ⟨_, .inl upM_same, fun g hg => ?_⟩
      rw [show (1 : Int) = ((1 : Nat) : Int) from rfl, cut_from, lots_D]
      have Lq := les_new (o := .lst (((([] : List Nat) :: ls).map cI).map tpI)) hq
      rw [lots_D] at Lq
      have Lg := les_new (o := .lst ((([] :: ls).map fun l => D.tup (natD l)).drop 1)) hg
      rw [lots_D] at Lg
      have q1 := qq g _ ls (L.trans (Lq.trans Lg)) (L.free (Lq.free (by rw [lots_D] at hg; exact hg))) upM_same lp ll
      exact Lk.of q1
end
end K83
set_option linter.all false
namespace K83
open PySem PySem.Spec PyProof.Rows L2 DL
/-! what the kinds of contents tell: a table of marks -/
section
variable {α β : Type} [DecidableEq α]
structure TabOk (m : Nat) (A : List α) (B : List β) (V : α → β → Int) : Prop where
  rng : ∀ a ∈ A, ∀ b ∈ B, 0 ≤ V a b ∧ V a b < m
  sur : ∀ a ∈ A, ∀ v : Int, 0 ≤ v → v < m → ∃ b ∈ B, V a b = v
  line : ∃ l : Int → α, (∀ c : Int, 0 ≤ c → c < m → l c ∈ A) ∧ ∀ b ∈ B, ∀ c d : Int, 0 ≤ c → c < m → 0 ≤ d → d < m → V (l c) b = V (l d) b → c = d
  ne : ∃ b, b ∈ B
def keyV (B : List β) (V : α → β → Int) (v : Int) (a : α) : List Bool := B.map fun b => decide (V a b = v)
theorem keyV_eq {B : List β} {V : α → β → Int} {v : Int} {a a' : α} : keyV B V v a = keyV B V v a' ↔ ∀ b ∈ B, V a b = v ↔ V a' b = v := by
  unfold keyV
  rw [List.map_inj_left]
  exact ⟨fun h b hb => decide_eq_decide.mp (h b hb), fun h b hb => decide_eq_decide.mpr (h b hb)⟩
variable {m : Nat} {A : List α} {B : List β} {V : α → β → Int}
/-- the contents of a line leave other contents each -/
theorem key_line (T : TabOk m A B V) {l : Int → α} (h1 : ∀ c : Int, 0 ≤ c → c < m → l c ∈ A) (h2 : ∀ b ∈ B, ∀ c d : Int, 0 ≤ c → c < m → 0 ≤ d → d < m → V (l c) b = V (l d) b → c = d) {v : Int} (v0 : 0 ≤ v) (v1 : v < m)
    {c d : Int} (c0 : 0 ≤ c) (c1 : c < m) (d0 : 0 ≤ d) (d1 : d < m) (e : keyV B V v (l c) = keyV B V v (l d)) : c = d := by
  obtain ⟨b, hb, e1⟩ := T.sur _ (h1 c c0 c1) v v0 v1
  have e2 := (keyV_eq.mp e b hb).mp e1
  exact h2 b hb c d c0 c1 d0 d1 (e1.trans e2.symm)
def lineK (m : Nat) (B : List β) (V : α → β → Int) (l : Int → α) (v : Int) : List (List Bool) := (List.range m).map fun (c : Nat) => keyV B V v (l c)
theorem line_nd (T : TabOk m A B V) {l : Int → α} (h1 : ∀ c : Int, 0 ≤ c → c < m → l c ∈ A) (h2 : ∀ b ∈ B, ∀ c d : Int, 0 ≤ c → c < m → 0 ≤ d → d < m → V (l c) b = V (l d) b → c = d) {v : Int} (v0 : 0 ≤ v) (v1 : v < m) :
    (lineK m B V l v).Nodup ∧ (∀ x ∈ lineK m B V l v, x ∈ dd (A.map (keyV B V v))) ∧ (lineK m B V l v).length = m := by
  refine ⟨?_, fun x hx => ?_, by simp [lineK]⟩
  · refine List.pairwise_map.mpr (List.Pairwise.imp_of_mem ?_ (List.nodup_range (n := m)))
    intro a b ha hb ne e
    have ha := List.mem_range.mp ha
    have hb := List.mem_range.mp hb
    have := key_line T h1 h2 v0 v1 (c := a) (d := b) (by omega) (by omega) (by omega) (by omega) e
    omega
  · obtain ⟨c, hc, rfl⟩ := List.mem_map.mp hx
    have hc := List.mem_range.mp hc
    exact dd_mem.mpr (List.mem_map.mpr ⟨_, h1 c (by omega) (by omega), rfl⟩)
/-- as many kinds as marks at least -/
theorem kinds_ge (T : TabOk m A B V) {v : Int} (v0 : 0 ≤ v) (v1 : v < m) : m ≤ (dd (A.map (keyV B V v))).length := by
  obtain ⟨l, h1, h2⟩ := T.line
  obtain ⟨a, b, c⟩ := line_nd T h1 h2 v0 v1
  have := pigeon a b
  omega
/-- one-test: alike beside some others, alike beside all -/
def Same (A : List α) (B : List β) (V : α → β → Int) : Prop := ∀ b ∈ B, ∀ b' ∈ B, nums (A.map fun a => V a b) = nums (A.map fun a => V a b')
theorem same_key (T : TabOk m A B V) (S : Same A B V) {v : Int} (v0 : 0 ≤ v) (v1 : v < m) {b : β} (hb : b ∈ B) : ∀ a ∈ A, ∀ a' ∈ A, keyV B V v a = keyV B V v a' ↔ V a b = V a' b := fun a ha a' ha' => by
  constructor
  · intro e
    obtain ⟨b', hb', e1⟩ := T.sur a ha v v0 v1
    have e2 := (keyV_eq.mp e b' hb').mp e1
    exact ((nums_pat (S b hb b' hb')) a ha a' ha').mpr (e1.trans e2.symm)
  · intro e
    refine keyV_eq.mpr fun b' hb' => ?_
    rw [((nums_pat (S b hb b' hb')) a ha a' ha').mp e]
theorem same_kinds (T : TabOk m A B V) (S : Same A B V) {v : Int} (v0 : 0 ≤ v) (v1 : v < m) : nums (A.map (keyV B V v)) = nums (A.map (keyV B V 0)) ∧ (dd (A.map (keyV B V v))).length = m := by
  obtain ⟨b, hb⟩ := T.ne
  have m0 : (0 : Int) < m := by omega
  have e1 := nums_same (keyV B V v) (fun a => V a b) A fun a ha a' ha' => same_key T S v0 v1 hb a ha a' ha'
  have e2 := nums_same (keyV B V 0) (fun a => V a b) A fun a ha a' ha' => same_key T S (Int.le_refl 0) m0 hb a ha a' ha'
  refine ⟨e1.1.trans e2.1.symm, Nat.le_antisymm ?_ (kinds_ge T v0 v1)⟩
  rw [e1.2]
  have := pigeon (l := dd (A.map fun a => V a b)) (r := (List.range m).map fun (c : Nat) => (c : Int)) (dd_nodup _) fun x hx => by
    obtain ⟨a, ha, rfl⟩ := List.mem_map.mp (dd_mem.mp hx)
    have := T.rng a ha b hb
    exact List.mem_map.mpr ⟨(V a b).toNat, List.mem_range.mpr (by omega), by omega⟩
  rw [List.length_map, List.length_range] at this
  exact this
theorem kinds_same (T : TabOk m A B V) (h : ∀ v : Int, 0 ≤ v → v < m → nums (A.map (keyV B V v)) = nums (A.map (keyV B V 0))) (h0 : (dd (A.map (keyV B V 0))).length ≤ m) (m0 : 0 < m) : Same A B V := by
  obtain ⟨l, l1, l2⟩ := T.line
  obtain ⟨n1, n2, n3⟩ := line_nd T l1 l2 (Int.le_refl 0) (by omega)
  have back : ∀ b ∈ B, ∀ a ∈ A, ∀ a' ∈ A, keyV B V 0 a = keyV B V 0 a' → V a b = V a' b := fun b hb a ha a' ha' e => by
    have r := T.rng a ha b hb
    have e2 := (nums_pat (h (V a b) r.1 r.2) a ha a' ha').mpr e
    exact ((keyV_eq.mp e2 b hb).mp rfl).symm
  have on : ∀ a ∈ A, ∃ c : Int, 0 ≤ c ∧ c < m ∧ keyV B V 0 (l c) = keyV B V 0 a := fun a ha => by
    have := pigeon_all n1 n2 (by omega) (dd_mem.mpr (List.mem_map.mpr ⟨a, ha, rfl⟩))
    obtain ⟨c, hc, e⟩ := List.mem_map.mp this
    have hc := List.mem_range.mp hc
    exact ⟨c, by omega, by omega, e⟩
  have fwd : ∀ b ∈ B, ∀ a ∈ A, ∀ a' ∈ A, V a b = V a' b ↔ keyV B V 0 a = keyV B V 0 a' := fun b hb a ha a' ha' => by
    refine ⟨fun e => ?_, back b hb a ha a' ha'⟩
    obtain ⟨c, c0, c1, ec⟩ := on a ha
    obtain ⟨d, d0, d1, ed⟩ := on a' ha'
    have f1 := back b hb _ (l1 c c0 c1) a ha ec
    have f2 := back b hb _ (l1 d d0 d1) a' ha' ed
    have := l2 b hb c d c0 c1 d0 d1 (f1.trans (e.trans f2.symm))
    rw [← ec, ← ed, this]
  intro b hb b' hb'
  exact (nums_same _ _ A fun a ha a' ha' => (fwd b hb a ha a' ha').trans (fwd b' hb' a ha a' ha').symm).1
end
/-! the table of a fair board's lot -/
theorem fa_tab {m n : Nat} {ks : List Int} {lot : List Nat} (F : Fa m n ks) (lk : LotOk n lot) (ne : lot ≠ []) (nf : lot.length < n) :
    TabOk m (setS (atL (nsR m n) lot)) (setS (atL (nsR m n) (restL n lot))) (lmV (nsR m n) ks lot) := by
  have lo : LotOk (nsR m n).length lot := by rw [List.length_replicate]; exact lk
  have lr : (nsR m n).length = n := List.length_replicate ..
  have m2 := F.k.m2
  have jo : ∀ a ∈ setS (atL (nsR m n) lot), ∀ b ∈ setS (atL (nsR m n) (restL n lot)), ∃ x, IsS (nsR m n) x ∧ atL x lot = a ∧ atL x (restL n lot) = b := fun a ha b hb => by
    have j := join_is lo (mem_setS.mp ha) (b := b) (by rw [lr]; exact mem_setS.mp hb)
    rw [lr] at j
    exact ⟨_, j.1, j.2.1, j.2.2⟩
  have lv : ∀ x, IsS (nsR m n) x → lmV (nsR m n) ks lot (atL x lot) (atL x (restL n lot)) = fV (nsR m n) ks x := fun x hx => by
    have := lm_at (ks := ks) lo hx
    rw [lr] at this
    exact this
  have pa : ∀ x, IsS (nsR m n) x → atL x lot ∈ setS (atL (nsR m n) lot) := fun x hx => mem_setS.mpr (is_part hx lo)
  have pb : ∀ x, IsS (nsR m n) x → atL x (restL n lot) ∈ setS (atL (nsR m n) (restL n lot)) := fun x hx => by
    have := is_part hx (rest_ok (nsR m n).length lot)
    rw [lr] at this
    exact mem_setS.mpr this
  have z : IsS (nsR m n) (List.replicate n 0) := isS_rep.mpr ⟨List.length_replicate .., fun i hi => by
    rw [List.getD_eq_getElem?_getD, List.getElem?_replicate, if_pos hi]
    exact ⟨Int.le_refl 0, by show (0 : Int) < m; omega⟩⟩
  obtain ⟨i, hi⟩ : ∃ i, i ∈ lot := List.exists_mem_of_ne_nil _ ne
  obtain ⟨k, hk⟩ : ∃ k, k ∈ restL n lot := List.exists_mem_of_ne_nil _ fun e => by
    have := lot_len lk
    rw [e] at this
    simp at this
    omega
  have hin := lk.lt i hi
  have hkn := (mem_rest.mp hk).1
  have keep : ∀ (x : List Int) (j : Nat) (c : Int) (l : List Nat), j ∉ l → atL (x.set j c) l = atL x l := fun x j c l h => List.map_congr_left fun t ht => getD_set_ne fun e => h (by rw [e]; exact ht)
  refine ⟨fun a ha b hb => ?_, fun a ha v v0 v1 => ?_, ?_, ⟨_, pb _ z⟩⟩
  · obtain ⟨x, hx, rfl, rfl⟩ := jo a ha b hb
    rw [lv x hx]
    exact (F.g x hx).1
  · obtain ⟨x, hx, rfl, _⟩ := jo a ha _ (pb _ z)
    obtain ⟨c, c0, c1, e⟩ := F.line hx hkn v0 v1
    have hy := isS_set' hx hkn c0 c1
    refine ⟨_, pb _ hy, ?_⟩
    have e1 := lv _ hy
    rw [keep x k c lot (mem_rest.mp hk).2] at e1
    rw [e1]
    exact e
  · refine ⟨fun c => atL ((List.replicate n 0).set i c) lot, fun c c0 c1 => pa _ (isS_set' z hin c0 c1), fun b hb c d c0 c1 d0 d1 e => ?_⟩
    obtain ⟨x, hx, ex, rfl⟩ := jo _ (pa _ z) b hb
    have nk : i ∉ restL n lot := fun q => (mem_rest.mp q).2 hi
    have lx := (isS_rep.mp hx).1
    have same : ∀ c : Int, atL ((List.replicate n 0).set i c) lot = atL (x.set i c) lot := fun c => List.map_congr_left fun t ht => by
      by_cases q : t = i
      · subst q
        rw [getD_set_self (by simpa using hin), getD_set_self (by omega)]
      · rw [getD_set_ne (Ne.symm q), getD_set_ne (Ne.symm q)]
        exact (List.map_inj_left.mp ex t ht).symm
    have val : ∀ c : Int, 0 ≤ c → c < m → lmV (nsR m n) ks lot (atL ((List.replicate n 0).set i c) lot) (atL x (restL n lot)) = fV (nsR m n) ks (x.set i c) := fun c c0 c1 => by
      have e1 := lv _ (isS_set' hx hin c0 c1)
      rw [keep x i c _ nk] at e1
      rw [same c]
      exact e1
    rw [val c c0 c1, val d d0 d1] at e
    exact F.inj hx hin c0 c1 d0 d1 e
end K83
set_option linter.all false
namespace K83
open PySem PySem.Spec PyProof.Rows L2 DL
open LamX (TabB CodeO)
local macro_rules | `(tactic| walk_at "w") => `(tactic| conv => whnf)
abbrev ts_wr : Addr → Addr → XD → DTS := fun a dd y => sRet (dFn rprD (aCons (dXf a dd (Str.ofString "at") (dVar 1)) aNil))
def wrV (N : List Str) (P : DK) (g : Addr) : DK := fun _ M1 => sRet (dC D.non) { nx := fun x M' => Lk P D.non M', rt := Lk P } (startD N [D.ref g]) M1
def wrX (K : PySem.W.Frag) (CL : Addr) (N : List Str) (P : DK) (PE : DXK) (g : Addr) : DXK := fun x M2 => wTryAs K CL (fun c => c = CL) 1 ts_wr (Lx PE) { nx := sRet (dC D.non) { nx := fun x M' => Lk P D.non M', rt := Lk P }, rt := Lk P } x (startD N [D.ref g]) M2
def TT_wr (K : PySem.W.Frag) (CL : Addr) (N : List Str) : DTh → DHp → DK → DXK → Prop := fun th M P PE => ∀ g, th M (wrV N P g) (wrX K CL N P PE g)
section
variable {P₀ : Program} {w : World} {K : PySem.W.Frag} {mg : Str → Option Value} {base : Heap} {C_Board C_BoardError C_InvalidBoard C_InvalidSetting C_InvalidSize C_InvalidLot C_Refused : Addr}
abbrev s__law_wrong : Stmt := top 65
abbrev N__law_wrong : List Str := ["work", "e"]
abbrev P__law_wrong : List Str := ["work"]
theorem sc__law_wrong : FnScope N__law_wrong P__law_wrong (defScope s__law_wrong) := ⟨rfl, rfl, rfl, by decide +kernel, rfl, by decide +kernel, by decide +kernel⟩
theorem ok_lwr {f : Addr} {fd : FuncData} (Dd : Df K mg "_law_wrong" s__law_wrong f fd P__law_wrong) (Z : Zs mg) (T : Tl P₀ w K mg base C_Board C_BoardError C_InvalidLot) (k : Nat) : CalT P₀ w K mg base "_law_wrong" k (TT_wr K C_InvalidLot N__law_wrong) := by
  refine ⟨f, fd, s__law_wrong, N__law_wrong, "work", Dd.F, Dd.g, Dd.b, sc__law_wrong, rfl, .inl rfl, by decide, by decide, fun cdv A outer s H E M g c' q th P PE hr tk act hc h => ⟨_, (dss_cons (ds_tryAs (fun c => c = C_InvalidLot) 1 sc__law_wrong.nd rfl rfl (names_g T.x_InvalidLot.g) tk (fun pn xe W B tk' pass => (dss_one (ds_expr (act pn xe W B _ _ tk')))) (fun a oe dd pn y hp hz hf => (dss_one (ds_ret (de_fnB (cr_rpr hr.g (by have := room70 hr; exact this)) Z.repr (da_cons (de_xf (T.x_InvalidLot.xf hp) (T.x_InvalidLot.nf hp) hz hf (de_var 1)) da_nil))))))
    (dss_one (ds_ret de_non))), ?_⟩⟩
  walk_at "w"
  exact ⟨rfl, hc, h g⟩
theorem lot_hit {M : DHp} {P : DK} {PE : DXK} {g : Addr} {i : Int} (T : Tl P₀ w K mg base C_Board C_BoardError C_InvalidLot) (i0 : -1 ≤ i) (i1 : i ≤ 100) (q : ∀ M', Les M M' → P (.str (PyData.int i).shown) M') : wrX K C_InvalidLot N__law_wrong P PE g ⟨C_InvalidLot, [("at", .int i)]⟩ M := by
  refine ⟨true, T.ex_LL, rfl, fun a dd hd => ?_⟩
  have L := les_new (o := .xd [("at", .int i)]) hd
  walk_at "w"
  refine ⟨_, _, rfl, upM_same, rfl, ?_⟩
  walk_at "w"
  have g4 := (gd_int (i := i) ⟨by omega, by omega⟩).four (by decide) (by decide)
  refine ⟨.int i, .int i, g4.1, g4.2.1, g4.2.2.1, g4.2.2.2, ?_⟩
  exact Lk.of (q _ L)
end
theorem sh0 : (PyData.int 0).shown = Str.ofString "0" := by rfl
theorem sh1 : (PyData.int 1).shown = Str.ofString "1" := by rfl
theorem shm : (PyData.int (-1)).shown = Str.ofString "-1" := by rfl
/-! the kinds of the law -/
theorem nums_max {α : Type} [DecidableEq α] {xs : List α} {k : Int} (hk : k ∈ ciI (nums xs)) (h : ∀ y ∈ ciI (nums xs), y ≤ k) : k + 1 = ((dd xs).length : Nat) := by
  obtain ⟨k', hk', rfl⟩ := List.mem_map.mp hk
  unfold nums at hk'
  obtain ⟨x, hx, rfl⟩ := List.mem_map.mp hk'
  have l1 := List.idxOf_lt_length_of_mem (dd_mem.mpr hx)
  have hl : (dd xs).length - 1 < (dd xs).length := by omega
  have my : (dd xs)[(dd xs).length - 1] ∈ xs := dd_mem.mp (List.getElem_mem hl)
  have iy : (dd xs).idxOf (dd xs)[(dd xs).length - 1] = (dd xs).length - 1 := by
    have m2 := List.idxOf_lt_length_of_mem (List.getElem_mem hl)
    exact (List.getElem_inj (dd_nodup xs)).mp (List.getElem_idxOf m2)
  have := h _ (List.mem_map.mpr ⟨_, List.mem_map.mpr ⟨_, my, rfl⟩, rfl⟩)
  rw [iy] at this
  omega
def numK (m n : Nat) (ks : List Int) (lot : List Nat) (v : Int) : Nat := (dd ((setS (atL (nsR m n) lot)).map (leftL m n ks lot v))).length
theorem test_same {m n : Nat} {ks : List Int} {lot : List Nat} : testB m n ks lot = true ↔ Same (setS (atL (nsR m n) lot)) (setS (atL (nsR m n) (restL n lot))) (lmV (nsR m n) ks lot) := by
  unfold testB
  rw [List.all_eq_true]
  constructor
  · intro h b hb b' hb'
    have h1 := of_decide_eq_true (h b hb)
    have h2 := of_decide_eq_true (h b' hb')
    exact h1.trans h2.symm
  · intro h b hb
    refine decide_eq_true (h b hb _ ?_)
    cases e : setS (atL (nsR m n) (restL n lot)) with
    | nil => rw [e] at hb; cases hb
    | cons x l => exact List.mem_cons_self
/-- what is asked of all kinds of a lot -/
theorem kinds_ok {m n : Nat} {ks : List Int} {lot : List Nat} (F : Fa m n ks) (lk : LotOk n lot) (ne : lot ≠ []) (nf : lot.length < n) :
    (∀ v : Int, 0 ≤ v → v < m → m ≤ numK m n ks lot v) ∧ (((∀ v : Nat, v < m → kkL m n ks lot v = kkL m n ks lot 0) ∧ (∀ v : Nat, v < m → numK m n ks lot v = m)) ↔ testB m n ks lot = true) := by
  have T := fa_tab F lk ne nf
  have m2 := F.k.m2
  refine ⟨fun v v0 v1 => kinds_ge T v0 v1, ?_⟩
  rw [test_same]
  constructor
  · rintro ⟨a, b⟩
    refine kinds_same T (fun v v0 v1 => ?_) (Nat.le_of_eq (b 0 (by omega))) (by omega)
    have := a v.toNat (by omega)
    rw [Int.toNat_of_nonneg v0] at this
    exact this
  · intro S
    exact ⟨fun v hv => (same_kinds T S (v := v) (by omega) (by omega)).1, fun v hv => (same_kinds T S (v := v) (by omega) (by omega)).2⟩
end K83
set_option linter.all false
namespace K83
open PySem PySem.Spec PyProof.Rows L2 DL
open LamX (TabB CodeO)
local macro_rules | `(tactic| walk_at "w") => `(tactic| conv => whnf)
abbrev qLaw : Str := "law" ++ ".<locals>." ++ "<lambda>"
abbrev LK : Nat := 7
/-- behind the making of a lambda -/
theorem Rs.lam {N M M1 : DHp} {p q : Addr} {T : List (Addr × Str)} (R : Rs N M p q) (l : LesN M M1) (t : TabsM T M1) : ∃ N1, Rs N1 M1 p q ∧ TabsM T N1 ∧ ∀ a o, N a = some o → (∀ ps, o ≠ .raw (.tbl ps)) → N1 a = some o := by
  obtain ⟨cs, b, h1, h2, h3⟩ := R.d
  have g1 := l _ _ h1 fun _ z => nomatch z
  have g2 := l _ _ h2 fun _ z => nomatch z
  refine ⟨fun a => if a = p ∨ a = q then none else M1 a, ⟨fun a o e => ?_, if_pos (.inl rfl), if_pos (.inr rfl), cs, b, g1, g2, h3⟩, fun x hx => ?_, fun a o e n => ?_⟩
  · have e : (if a = p ∨ a = q then none else M1 a) = some o := e
    split at e
    · cases e
    · exact e
  · obtain ⟨ps, t1, t2, t3⟩ := t x hx
    have off : ∀ a o, M1 a = some (.raw o) → (if a = p ∨ a = q then none else M1 a) = some (.raw o) := fun a o e => by
      rw [if_neg]
      · exact e
      · rintro (z | z)
        · rw [z, g1] at e; cases e
        · rw [z, g2] at e; cases e
    refine ⟨ps, off _ _ t1, t2, fun pos cv e => ?_⟩
    obtain ⟨c, c1, c2⟩ := t3 pos cv e
    exact ⟨c, c1, off _ _ c2⟩
  · refine (if_neg ?_).trans (l _ _ (R.l _ _ e) n)
    rintro (z | z)
    · rw [z, R.np] at e; cases e
    · rw [z, R.nq] at e; cases e
theorem pu_tp (r : List Int) : Pu (tpD r) := by
  have s := shaped_tup r
  unfold SeqAt.shaped at s
  rw [Bool.and_eq_true] at s
  have := deep_ints r
  exact ⟨rP r, fun M => pd_r r, s.1, by show (PyData.tuple (r.map PyData.int)).depth ≤ 50; simp only [PyData.depth]; omega⟩
theorem ne_tups {M : DHp} {a b : List Int} {Q : Bool → DHp → Prop} (h : Q (!decide (a = b)) M) : neD (tpD a) (tpD b) M Q :=
  ⟨_, _, .tup (pd_ints a), .tup (pd_ints b), shaped_tup a, shaped_tup b, by
    have e : PyData.eqv (.tuple (a.map PyData.int)) (.tuple (b.map PyData.int)) = decide (a = b) := by rw [PyData.eqv, eqv_ints]
    rw [if_pos rfl, e]
    exact h⟩
theorem nd_f {α : Type} [DecidableEq α] {a b : α} (h : a = b) : (!decide (a = b)) = false := by simp [h]
theorem nat_get {lot : List Nat} {i : Nat} (h : i < lot.length) : (natD lot).getD i .non = .int (lot[i] : Nat) := by
  rw [List.getD_eq_getElem?_getD]
  unfold natD
  rw [List.getElem?_map, List.getElem?_eq_getElem h]
  rfl
/-- an ascending lot is one -/
theorem ld_good {n : Nat} {lot : List Nat} (asc : lot.Pairwise (· < ·)) (lt : ∀ i ∈ lot, i < n) (ne : lot ≠ []) : ldD (n : Nat) (some (natD lot)) = .non := by
  have l0 : ¬ (natD lot).length = 0 := by unfold natD; rw [List.length_map]; intro z; exact ne (List.length_eq_zero_iff.mp z)
  show (if (natD lot).length = 0 then _ else plD _) = _
  rw [if_neg l0, firstN_all fun i hi => ?_]
  · rfl
  · unfold natD at hi
    rw [List.length_map] at hi
    have hb : isB (n : Nat) (.int (lot[i] : Nat)) = true := by
      have := lt _ (List.getElem_mem hi)
      show (decide ((0 : Int) ≤ (lot[i] : Nat)) && decide (((lot[i] : Nat) : Int) < (n : Nat))) = true
      rw [decide_eq_true (by omega), decide_eq_true (by omega)]
      rfl
    unfold badL leastL
    rw [nat_get hi, hb]
    by_cases e : i = 0
    · rw [if_pos e]
      show (false || decide (((lot[i] : Nat) : Int) < 0)) = false
      rw [decide_eq_false (by omega)]
      rfl
    · rw [if_neg e, nat_get (by omega)]
      have := List.pairwise_iff_getElem.mp asc (i - 1) i (by omega) hi (by omega)
      show (false || decide (((lot[i] : Nat) : Int) < ((lot[i - 1] : Nat) : Int) + 1)) = false
      rw [decide_eq_false (by omega)]
      rfl
theorem vw_nat {K : PySem.W.Frag} {M : DHp} {d : D} {lot : List Nat} (h : SqD M d (natD lot)) : Vw K M d (some (natD lot)) := ⟨h, fun x hx => by
  obtain ⟨i, _, rfl⟩ := List.mem_map.mp hx
  exact ⟨.int, rfl, trivial⟩⟩
theorem ld_nil {n : Int} : ldD n (some []) = .int (-1) := rfl
theorem ld_bad {n : Int} {xs : List D} {k : Nat} (l : k < xs.length) (h0 : ∀ i, i < k → badL n xs i = false) (h1 : badL n xs k = true) : ldD n (some xs) = .int (k : Nat) := by
  have l0 : ¬ xs.length = 0 := by omega
  show (if xs.length = 0 then D.int (-1) else plD (firstN (badL n xs) xs.length)) = _
  rw [if_neg l0, firstN_hit (firstN_all h0) h1 l]
  rfl
theorem ld_oneD {n : Nat} {v : D} (h : isB (n : Nat) v = false) : ldD (n : Nat) (some [v]) = .int ((0 : Nat) : Int) :=
  ld_bad (by simp) (fun i h => absurd h (Nat.not_lt_zero _)) (by
    unfold badL
    show (!isB (n : Nat) v || _) = true
    rw [h]
    rfl)
theorem ld_zz {n : Nat} (h : 1 ≤ n) : ldD (n : Nat) (some [.int 0, .int 0]) = .int ((1 : Nat) : Int) := by
  have hb : isB (n : Nat) (.int 0) = true := by
    show (decide ((0 : Int) ≤ 0) && decide ((0 : Int) < (n : Nat))) = true
    rw [decide_eq_true (by omega), decide_eq_true (by omega)]
    rfl
  refine ld_bad (by simp) (fun i h => ?_) ?_
  · have : i = 0 := by omega
    subst this
    unfold badL leastL
    show (!isB (n : Nat) (.int 0) || decide ((0 : Int) < 0)) = false
    rw [hb]
    rfl
  · unfold badL leastL
    show (!isB (n : Nat) (.int 0) || decide ((0 : Int) < 0 + 1)) = true
    rw [hb]
    rfl
/-- what is picked for a wrong lot: the thing, what it is, and where it fails -/
def WrL (K : PySem.W.Frag) (n : Nat) (v : D) : Prop := ∃ (wv : D) (o : Option (List D)) (i : Int), v = .tup [wv, .str (PyData.int i).shown] ∧ (∀ N : DHp, Vw K N wv o) ∧ ldD (n : Nat) o = .int i ∧ -1 ≤ i ∧ i ≤ 4
theorem wrL_of {K : PySem.W.Frag} {n : Nat} {v : D} (n1 : 1 ≤ n) (hv : v ∈ [D.tup [.tup [], .str (Str.ofString "-1")], .tup [.tup [.int n], .str (Str.ofString "0")], .tup [.tup [.int 0, .int 0], .str (Str.ofString "1")], .tup [.tup [.bl true], .str (Str.ofString "0")], .tup [.non, .str (Str.ofString "-1")], .tup [.tup [.int (0 - 1)], .str (Str.ofString "0")]]) : WrL K n v := by
  simp only [List.mem_cons, List.not_mem_nil, or_false] at hv
  rcases hv with rfl | rfl | rfl | rfl | rfl | rfl
  · exact ⟨.tup [], some [], -1, by rw [shm], fun N => ⟨.tup, fun x hx => absurd hx List.not_mem_nil⟩, ld_nil, by omega, by omega⟩
  · refine ⟨.tup [.int n], some [.int n], ((0 : Nat) : Int), by rw [← sh0]; rfl, fun N => ⟨.tup, fun x hx => by rw [List.mem_singleton.mp hx]; exact ⟨.int, rfl, trivial⟩⟩, ld_oneD ?_, by omega, by omega⟩
    show (decide (0 ≤ (n : Int)) && decide ((n : Int) < n)) = false
    rw [decide_eq_false (p := (n : Int) < n) (by omega), Bool.and_false]
  · refine ⟨.tup [.int 0, .int 0], some [.int 0, .int 0], ((1 : Nat) : Int), by rw [← sh1]; rfl, fun N => ⟨.tup, fun x hx => ?_⟩, ld_zz n1, by omega, by omega⟩
    have : x = .int 0 := by simpa using hx
    rw [this]
    exact ⟨.int, rfl, trivial⟩
  · exact ⟨.tup [.bl true], some [.bl true], ((0 : Nat) : Int), by rw [← sh0]; rfl, fun N => ⟨.tup, fun x hx => by rw [List.mem_singleton.mp hx]; exact ⟨.bl, rfl, trivial⟩⟩, ld_oneD rfl, by omega, by omega⟩
  · exact ⟨.non, none, -1, by rw [shm], fun N => ⟨.non, rfl, trivial, rfl⟩, rfl, by omega, by omega⟩
  · exact ⟨.tup [.int (0 - 1)], some [.int (0 - 1)], ((0 : Nat) : Int), by rw [← sh0]; rfl, fun N => ⟨.tup, fun x hx => by rw [List.mem_singleton.mp hx]; exact ⟨.int, rfl, trivial⟩⟩, ld_oneD rfl, by omega, by omega⟩
/-- what stands before the law's walk -/
structure LwS (C_Board Pt : Addr) (N : DHp) (e b : Addr) (m n : Nat) (ks : List Int) : Prop where
  fa : Fa m n ks
  hb : BdAt C_Board N b m (nsR m n) ks
  fe : N e = some (.lst (ks.map D.int))
  hT : TabsM [(Pt, qLaw)] N
theorem LwS.les {C_Board Pt : Addr} {N N' : DHp} {e b : Addr} {m n : Nat} {ks : List Int} (S : LwS C_Board Pt N e b m n ks) (l : Les N N') : LwS C_Board Pt N' e b m n ks :=
  ⟨S.fa, l _ _ S.hb, l _ _ S.fe, S.hT.les l⟩
theorem LwS.lam {C_Board Pt : Addr} {N N' : DHp} {e b : Addr} {m n : Nat} {ks : List Int} (S : LwS C_Board Pt N e b m n ks) (l : ∀ a o, N a = some o → (∀ ps, o ≠ .raw (.tbl ps)) → N' a = some o) (t : TabsM [(Pt, qLaw)] N') : LwS C_Board Pt N' e b m n ks :=
  ⟨S.fa, l _ _ S.hb (fun _ z => nomatch z), l _ _ S.fe (fun _ z => nomatch z), t⟩
end K83
set_option linter.all false
namespace K83
open PySem PySem.Spec PyProof.Rows L2 DL
/-- a fair board's marks; of two or three marks sums -/
structure Fb (m n : Nat) (ks : List Int) : Prop where
  fa : Fa m n ks
  sum : m ≤ 3 → ∃ (R : List (List Int)) (nm : List Int), (∀ i, i < n → Prm m (R.getD i [])) ∧ Prm m nm ∧ ∀ r, IsS (nsR m n) r → fV (nsR m n) ks r = smF m R nm r
theorem fb_of {m n : Nat} {f : List Int → Int} (g : GoodF m n f) (m2 : 2 ≤ m) (m8 : m ≤ 8) (n1 : 1 ≤ n) (n4 : n ≤ 4) (sm : m ^ n ≤ 512) (s : m ≤ 3 → SumB m n f) : Fb m n ((setS (List.replicate n (m : Int))).map f) := by
  refine ⟨fa_of g m2 m8 n1 n4 sm, fun h => ?_⟩
  obtain ⟨R, nm, a, b, c⟩ := s h
  exact ⟨R, nm, a, b, fun r hr => by rw [fV_map (rep_pos m2) hr, c]⟩
section
variable {m n : Nat} {ks : List Int} {lot : List Nat}
abbrev AL (m n : Nat) (lot : List Nat) : List (List Int) := setS (atL (nsR m n) lot)
theorem jo (lk : LotOk n lot) {a b : List Int} (ha : a ∈ AL m n lot) (hb : b ∈ AL m n (restL n lot)) : ∃ x, IsS (nsR m n) x ∧ atL x lot = a ∧ atL x (restL n lot) = b := by
  have lr : (nsR m n).length = n := List.length_replicate ..
  have j := join_is (ns := nsR m n) (lot := lot) (by rw [lr]; exact lk) (mem_setS.mp ha) (b := b) (by rw [lr]; exact mem_setS.mp hb)
  rw [lr] at j
  exact ⟨_, j.1, j.2.1, j.2.2⟩
theorem lv (lk : LotOk n lot) {x : List Int} (hx : IsS (nsR m n) x) : lmV (nsR m n) ks lot (atL x lot) (atL x (restL n lot)) = fV (nsR m n) ks x := by
  have lr : (nsR m n).length = n := List.length_replicate ..
  have := lm_at (ks := ks) (ns := nsR m n) (lot := lot) (by rw [lr]; exact lk) hx
  rw [lr] at this
  exact this
theorem pa (lk : LotOk n lot) {x : List Int} (hx : IsS (nsR m n) x) : atL x lot ∈ AL m n lot := mem_setS.mpr (is_part hx (by rw [List.length_replicate]; exact lk))
theorem pb {x : List Int} (hx : IsS (nsR m n) x) : atL x (restL n lot) ∈ AL m n (restL n lot) := pa (rest_ok n lot) hx
theorem at_keep {x : List Int} {j : Nat} {c : Int} {l : List Nat} (h : j ∉ l) : atL (x.set j c) l = atL x l := List.map_congr_left fun t ht => getD_set_ne fun e => h (by rw [e]; exact ht)
theorem AL_is {a : List Int} (lk : LotOk n lot) : a ∈ AL m n lot ↔ a.length = lot.length ∧ ∀ p, p < lot.length → 0 ≤ a.getD p 0 ∧ a.getD p 0 < m := by
  rw [AL, mem_setS]
  have e : atL (nsR m n) lot = List.replicate lot.length (m : Int) := by
    refine list_eq (by simp [atL]) fun i hi => ?_
    rw [List.length_replicate] at hi
    rw [at_get hi, rep_get (lk.lt _ (List.getElem_mem hi)), rep_get hi]
  rw [e]
  exact isS_rep
theorem at_set (lk : LotOk n lot) {x : List Int} (lx : x.length = n) {p : Nat} (hp : p < lot.length) {c : Int} : atL (x.set lot[p] c) lot = (atL x lot).set p c := by
  have hn := lk.lt _ (List.getElem_mem hp)
  refine list_eq (by simp [atL]) fun i hi => ?_
  have hi : i < lot.length := by simpa [atL] using hi
  rw [at_get hi]
  by_cases e : i = p
  · subst e
    rw [getD_set_self (by omega), getD_set_self (by simpa [atL] using hi)]
  · have ne : lot[p] ≠ lot[i] := fun z => e ((List.getElem_inj lk.nd).mp z).symm
    rw [getD_set_ne ne, getD_set_ne (Ne.symm e), at_get hi]
/-- along one part of a lot each mark stands once -/
theorem part_line (F : Fa m n ks) (lk : LotOk n lot) {a b : List Int} (ha : a ∈ AL m n lot) (hb : b ∈ AL m n (restL n lot)) {p : Nat} (hp : p < lot.length) {v : Int} (v0 : 0 ≤ v) (v1 : v < m) : ∃ c : Int, 0 ≤ c ∧ c < m ∧ lmV (nsR m n) ks lot (a.set p c) b = v := by
  obtain ⟨x, hx, rfl, rfl⟩ := jo lk ha hb
  have hn := lk.lt _ (List.getElem_mem hp)
  obtain ⟨c, c0, c1, e⟩ := F.line hx hn v0 v1
  refine ⟨c, c0, c1, ?_⟩
  have e1 := lv (ks := ks) lk (isS_set' hx hn c0 c1)
  rw [at_set lk (isS_rep.mp hx).1 hp, at_keep fun q => (mem_rest.mp q).2 (List.getElem_mem hp)] at e1
  rw [e1]
  exact e
theorem part_inj (F : Fa m n ks) (lk : LotOk n lot) {a b : List Int} (ha : a ∈ AL m n lot) (hb : b ∈ AL m n (restL n lot)) {p : Nat} (hp : p < lot.length) {c d : Int} (c0 : 0 ≤ c) (c1 : c < m) (d0 : 0 ≤ d) (d1 : d < m)
    (e : lmV (nsR m n) ks lot (a.set p c) b = lmV (nsR m n) ks lot (a.set p d) b) : c = d := by
  obtain ⟨x, hx, rfl, rfl⟩ := jo lk ha hb
  have hn := lk.lt _ (List.getElem_mem hp)
  have val : ∀ c : Int, 0 ≤ c → c < m → lmV (nsR m n) ks lot ((atL x lot).set p c) (atL x (restL n lot)) = fV (nsR m n) ks (x.set lot[p] c) := fun c c0 c1 => by
    have e1 := lv (ks := ks) lk (isS_set' hx hn c0 c1)
    rw [at_set lk (isS_rep.mp hx).1 hp, at_keep fun q => (mem_rest.mp q).2 (List.getElem_mem hp)] at e1
    exact e1
  rw [val c c0 c1, val d d0 d1] at e
  exact F.inj hx hn c0 c1 d0 d1 e
theorem AL_set (lk : LotOk n lot) {a : List Int} (ha : a ∈ AL m n lot) {p : Nat} {c : Int} (c0 : 0 ≤ c) (c1 : c < m) : a.set p c ∈ AL m n lot := by
  obtain ⟨l, r⟩ := (AL_is lk).mp ha
  refine (AL_is lk).mpr ⟨by rw [List.length_set]; exact l, fun i hi => ?_⟩
  by_cases e : i = p
  · subst e
    rw [getD_set_self (by omega)]
    exact ⟨c0, c1⟩
  · rw [getD_set_ne (Ne.symm e)]
    exact r i hi
theorem V_rng (F : Fa m n ks) (lk : LotOk n lot) {a b : List Int} (ha : a ∈ AL m n lot) (hb : b ∈ AL m n (restL n lot)) : 0 ≤ lmV (nsR m n) ks lot a b ∧ lmV (nsR m n) ks lot a b < m := by
  obtain ⟨x, hx, rfl, rfl⟩ := jo lk ha hb
  rw [lv lk hx]
  exact (F.g x hx).1
/-! sums: each lot is one-test -/
def wtI (R : List (List Int)) (x : List Int) (i : Nat) : Int := (R.getD i []).getD (x.getD i 0).toNat 0
theorem wts_split {R : List (List Int)} {x : List Int} (lk : LotOk n lot) (lx : x.length = n) : (wts R x).sum = (lot.map (wtI R x)).sum + ((restL n lot).map (wtI R x)).sum := by
  unfold wts
  rw [lx, ← perm_sum (lot_perm lk), List.map_append, List.sum_append_int]
  rfl
theorem wt_at {R : List (List Int)} {x y : List Int} {l : List Nat} (h : atL x l = atL y l) : (l.map (wtI R x)).sum = (l.map (wtI R y)).sum := by
  congr 1
  refine List.map_congr_left fun i hi => ?_
  unfold wtI
  rw [List.map_inj_left.mp h i hi]
theorem sum_same (F : Fb m n ks) (lk : LotOk n lot) (h3 : m ≤ 3) : Same (AL m n lot) (AL m n (restL n lot)) (lmV (nsR m n) ks lot) := by
  obtain ⟨R, nm, hR, hn, hf⟩ := F.sum h3
  have m2 := F.fa.k.m2
  have key : ∀ a ∈ AL m n lot, ∀ a' ∈ AL m n lot, ∀ b ∈ AL m n (restL n lot), ∀ b' ∈ AL m n (restL n lot), lmV (nsR m n) ks lot a b = lmV (nsR m n) ks lot a' b → lmV (nsR m n) ks lot a b' = lmV (nsR m n) ks lot a' b' := fun a ha a' ha' b hb b' hb' e => by
    obtain ⟨x, hx, xa, xb⟩ := jo lk ha hb
    obtain ⟨x', hx', xa', xb'⟩ := jo lk ha' hb
    obtain ⟨y, hy, ya, yb⟩ := jo lk ha hb'
    obtain ⟨y', hy', ya', yb'⟩ := jo lk ha' hb'
    have e1 := lv (ks := ks) lk hx
    have e2 := lv (ks := ks) lk hx'
    have e3 := lv (ks := ks) lk hy
    have e4 := lv (ks := ks) lk hy'
    rw [xa, xb] at e1
    rw [xa', xb'] at e2
    rw [ya, yb] at e3
    rw [ya', yb'] at e4
    rw [e1, e2, hf x hx, hf x' hx'] at e
    rw [e3, e4, hf y hy, hf y' hy']
    unfold smF at e ⊢
    have m0 : (0 : Int) < m := by omega
    have ee := Prm.inj' hn (Int.emod_nonneg _ (by omega)) (Int.emod_lt_of_pos _ m0) (Int.emod_nonneg _ (by omega)) (Int.emod_lt_of_pos _ m0) e
    have s1 := wts_split (R := R) lk (isS_rep.mp hx).1
    have s2 := wts_split (R := R) lk (isS_rep.mp hx').1
    have s3 := wts_split (R := R) lk (isS_rep.mp hy).1
    have s4 := wts_split (R := R) lk (isS_rep.mp hy').1
    have a1 := wt_at (R := R) (show atL x lot = atL y lot by rw [xa, ya])
    have a2 := wt_at (R := R) (show atL x' lot = atL y' lot by rw [xa', ya'])
    have a3 := wt_at (R := R) (show atL x (restL n lot) = atL x' (restL n lot) by rw [xb, xb'])
    have a4 := wt_at (R := R) (show atL y (restL n lot) = atL y' (restL n lot) by rw [yb, yb'])
    have ef : (wts R y).sum % m = (wts R y').sum % m := by
      rw [Int.emod_eq_emod_iff_emod_sub_eq_zero] at ee ⊢
      rw [← ee]
      congr 1
      omega
    rw [ef]
  intro b hb b' hb'
  exact (nums_same _ _ _ fun a ha a' ha' => ⟨key a ha a' ha' b hb b' hb', key a ha a' ha' b' hb' b hb⟩).1
/-! the no in which all parts change -/
theorem other3 (x y z : Int) : ∃ c : Int, 0 ≤ c ∧ c < 4 ∧ c ≠ x ∧ c ≠ y ∧ c ≠ z := by
  by_cases h0 : x ≠ 0 ∧ y ≠ 0 ∧ z ≠ 0
  · exact ⟨0, by omega, by omega, fun e => h0.1 e.symm, fun e => h0.2.1 e.symm, fun e => h0.2.2 e.symm⟩
  · by_cases h1 : x ≠ 1 ∧ y ≠ 1 ∧ z ≠ 1
    · exact ⟨1, by omega, by omega, fun e => h1.1 e.symm, fun e => h1.2.1 e.symm, fun e => h1.2.2 e.symm⟩
    · by_cases h2 : x ≠ 2 ∧ y ≠ 2 ∧ z ≠ 2
      · exact ⟨2, by omega, by omega, fun e => h2.1 e.symm, fun e => h2.2.1 e.symm, fun e => h2.2.2 e.symm⟩
      · exact ⟨3, by omega, by omega, by omega, by omega, by omega⟩
def Full (lot : List Nat) (u v : List Int) : Prop := ∀ p, p < lot.length → u.getD p 0 ≠ v.getD p 0
def IsNo (m n : Nat) (ks : List Int) (lot : List Nat) (u v b b' : List Int) : Prop := lmV (nsR m n) ks lot u b = lmV (nsR m n) ks lot v b ∧ lmV (nsR m n) ks lot u b' ≠ lmV (nsR m n) ks lot v b'
theorem not_same {A B : List (List Int)} {V : List Int → List Int → Int} (h : ¬ Same A B V) : ∃ a ∈ A, ∃ a' ∈ A, ∃ b ∈ B, ∃ b' ∈ B, V a b = V a' b ∧ V a b' ≠ V a' b' := by
  refine Classical.byContradiction fun q => h fun b hb b' hb' => ?_
  refine (nums_same _ _ _ fun a ha a' ha' => ⟨fun e => ?_, fun e => ?_⟩).1
  · exact Classical.byContradiction fun z => q ⟨a, ha, a', ha', b, hb, b', hb', e, z⟩
  · exact Classical.byContradiction fun z => q ⟨a, ha, a', ha', b', hb', b, hb, e, z⟩
theorem no_full (F : Fb m n ks) (lk : LotOk n lot) (h : ¬ Same (AL m n lot) (AL m n (restL n lot)) (lmV (nsR m n) ks lot)) :
    ∃ u ∈ AL m n lot, ∃ v ∈ AL m n lot, ∃ b ∈ AL m n (restL n lot), ∃ b' ∈ AL m n (restL n lot), Full lot u v ∧ IsNo m n ks lot u v b b' := by
  have m4 : 4 ≤ m := by
    refine Classical.byContradiction fun q => h (sum_same F lk (by omega))
  obtain ⟨u, hu, v, hv, b, hb, b', hb', e1, e2⟩ := not_same h
  by_cases fu : Full lot u v
  · exact ⟨u, hu, v, hv, b, hb, b', hb', fu, e1, e2⟩
  · obtain ⟨p0, hp0, ep0⟩ : ∃ p, p < lot.length ∧ u.getD p 0 = v.getD p 0 := by
      refine Classical.byContradiction fun q => fu fun p hp e => q ⟨p, hp, e⟩
    obtain ⟨lu, ru⟩ := (AL_is lk).mp hu
    obtain ⟨lv', rv⟩ := (AL_is lk).mp hv
    obtain ⟨p1, hp1, ep1⟩ : ∃ p, p < lot.length ∧ u.getD p 0 ≠ v.getD p 0 := by
      refine Classical.byContradiction fun q => e2 ?_
      have : u = v := list_eq (by omega) fun i hi => Classical.byContradiction fun z => q ⟨i, by omega, z⟩
      rw [this]
    have p01 : p0 ≠ p1 := fun e => ep1 (by rw [← e]; exact ep0)
    let t : Nat → Int := fun p => (other3 (u.getD p 0) (v.getD p 0) (u.getD p 0)).choose
    have ht : ∀ p, 0 ≤ t p ∧ t p < 4 ∧ t p ≠ u.getD p 0 ∧ t p ≠ v.getD p 0 ∧ t p ≠ u.getD p 0 := fun p => (other3 (u.getD p 0) (v.getD p 0) (u.getD p 0)).choose_spec
    generalize t = t at ht
    obtain ⟨z, lz, hz⟩ : ∃ z : List Int, z.length = lot.length ∧ ∀ p, p < lot.length → z.getD p 0 = t p := ⟨(List.range lot.length).map t, by simp, fun p hp => by rw [List.getD_eq_getElem?_getD, List.getElem?_map, List.getElem?_range hp]; rfl⟩
    have zA : z ∈ AL m n lot := (AL_is lk).mpr ⟨lz, fun p hp => by
      rw [hz p hp]
      have := ht p
      exact ⟨this.1, by omega⟩⟩
    obtain ⟨c2, c20, c24, c2u, c2v, c2t⟩ := other3 (u.getD p1 0) (v.getD p1 0) (t p1)
    have r := V_rng F.fa lk hu hb (ks := ks)
    have mk : ∀ c : Int, 0 ≤ c → c < 4 → ∃ d : Int, 0 ≤ d ∧ d < m ∧ lmV (nsR m n) ks lot ((z.set p1 c).set p0 d) b = lmV (nsR m n) ks lot u b := fun c c0 c4 => part_line F.fa lk (AL_set lk zA c0 (by omega)) hb hp0 r.1 r.2
    have h1 := ht p1
    obtain ⟨d1, d10, d11, ed1⟩ := mk (t p1) h1.1 h1.2.1
    obtain ⟨d2, d20, d21, ed2⟩ := mk c2 c20 c24
    have dne : d1 ≠ d2 := fun e => by
      subst e
      have zc : ∀ c : Int, (z.set p1 c).set p0 d1 = (z.set p0 d1).set p1 c := fun c => (List.set_comm _ _ (Ne.symm p01))
      rw [zc] at ed1 ed2
      exact c2t (part_inj F.fa lk (AL_set lk zA d10 d11) hb hp1 c20 (by omega) h1.1 (by omega) (ed2.trans ed1.symm))
    have fin : ∀ c d : Int, 0 ≤ c → c < 4 → c ≠ u.getD p1 0 → c ≠ v.getD p1 0 → 0 ≤ d → d < m → d ≠ u.getD p0 0 → lmV (nsR m n) ks lot ((z.set p1 c).set p0 d) b = lmV (nsR m n) ks lot u b →
        ∃ u ∈ AL m n lot, ∃ v ∈ AL m n lot, ∃ b ∈ AL m n (restL n lot), ∃ b' ∈ AL m n (restL n lot), Full lot u v ∧ IsNo m n ks lot u v b b' := fun c d c0 c4 cu cv d0 d1 du ew => by
      have wA : (z.set p1 c).set p0 d ∈ AL m n lot := AL_set lk (AL_set lk zA c0 (by omega)) d0 d1
      have wv : ∀ p, p < lot.length → ((z.set p1 c).set p0 d).getD p 0 ≠ u.getD p 0 ∧ ((z.set p1 c).set p0 d).getD p 0 ≠ v.getD p 0 := fun p hp => by
        by_cases q0 : p = p0
        · subst q0
          rw [getD_set_self (by rw [List.length_set]; omega)]
          exact ⟨du, by rw [← ep0]; exact du⟩
        · rw [getD_set_ne (Ne.symm q0)]
          by_cases q1 : p = p1
          · subst q1
            rw [getD_set_self (by omega)]
            exact ⟨cu, cv⟩
          · rw [getD_set_ne (Ne.symm q1), hz p hp]
            exact ⟨(ht p).2.2.1, (ht p).2.2.2.1⟩
      by_cases q : lmV (nsR m n) ks lot u b' = lmV (nsR m n) ks lot ((z.set p1 c).set p0 d) b'
      · exact ⟨v, hv, _, wA, b, hb, b', hb', fun p hp e => (wv p hp).2 e.symm, e1.symm.trans ew.symm, fun e => e2 (q.trans e.symm)⟩
      · exact ⟨u, hu, _, wA, b, hb, b', hb', fun p hp e => (wv p hp).1 e.symm, ew.symm, q⟩
    by_cases q : d1 = u.getD p0 0
    · exact fin c2 d2 c20 c24 c2u c2v d20 d21 (fun e => dne (q.trans e.symm)) ed2
    · exact fin (t p1) d1 h1.1 h1.2.1 h1.2.2.1 h1.2.2.2.1 d10 d11 q ed1
end
end K83
set_option linter.all false
namespace K83
open PySem PySem.Spec PyProof.Rows L2 DL
local macro_rules | `(tactic| walk_at "w") => `(tactic| conv => whnf)
/-- the places at which two rows differ -/
def difL (x y : List Int) : List Nat := (List.range x.length).filter fun i => decide (x.getD i 0 ≠ y.getD i 0)
theorem get_some {l : List Int} {i : Nat} (h : i < l.length) : l[i]? = some (l.getD i 0) := by rw [List.getD_eq_getElem?_getD, List.getElem?_eq_getElem h]; rfl
def simL (x y : List Int) : List Nat := (List.range x.length).filter fun i => !decide (i ∈ difL x y)
theorem mem_dif {x y : List Int} {i : Nat} : i ∈ difL x y ↔ i < x.length ∧ x.getD i 0 ≠ y.getD i 0 := by
  unfold difL
  rw [List.mem_filter, List.mem_range]
  exact ⟨fun ⟨a, b⟩ => ⟨a, of_decide_eq_true b⟩, fun ⟨a, b⟩ => ⟨a, decide_eq_true b⟩⟩
theorem mem_sim {x y : List Int} {i : Nat} : i ∈ simL x y ↔ i < x.length ∧ x.getD i 0 = y.getD i 0 := by
  unfold simL
  rw [List.mem_filter, List.mem_range, Bool.not_eq_true', decide_eq_false_iff_not, mem_dif]
  exact ⟨fun ⟨a, b⟩ => ⟨a, Classical.byContradiction fun z => b ⟨a, z⟩⟩, fun ⟨a, b⟩ => ⟨a, fun z => z.2 b⟩⟩
theorem dif_all {x y : List Int} : (difL x y).length = x.length ↔ ∀ i, i < x.length → x.getD i 0 ≠ y.getD i 0 := by
  unfold difL
  conv => lhs; rhs; rw [← List.length_range (n := x.length)]
  rw [List.length_filter_eq_length_iff]
  exact ⟨fun h i hi => of_decide_eq_true (h i (List.mem_range.mpr hi)), fun h i hi => decide_eq_true (h i (List.mem_range.mp hi))⟩
def fchO (x y : List Int) : Option (Nat × Nat) := if difL x y = [] ∨ (difL x y).length = x.length then none else some ((simL x y).headD 0, (difL x y).headD 0)
theorem head_mem {l : List Nat} (h : l ≠ []) : l.headD 0 ∈ l := by
  cases l with
  | nil => exact absurd rfl h
  | cons a l => exact List.mem_cons_self
theorem sim_ne {x y : List Int} (h : ¬ (difL x y).length = x.length) : simL x y ≠ [] := fun e => h (dif_all.mpr fun i hi z => by
  have := (mem_sim (x := x) (y := y)).mpr ⟨hi, z⟩
  rw [e] at this
  cases this)
theorem fch_some {x y : List Int} {a b : Nat} (h : fchO x y = some (a, b)) : (a < x.length ∧ x.getD a 0 = y.getD a 0) ∧ b < x.length ∧ x.getD b 0 ≠ y.getD b 0 := by
  unfold fchO at h
  split at h
  · cases h
  · rename_i q
    cases h
    exact ⟨mem_sim.mp (head_mem (sim_ne fun z => q (.inr z))), mem_dif.mp (head_mem fun z => q (.inl z))⟩
theorem fch_none {x y : List Int} (h : fchO x y = none) {a b : Nat} (ha : a < x.length) (ea : x.getD a 0 = y.getD a 0) (hb : b < x.length) (eb : x.getD b 0 ≠ y.getD b 0) : False := by
  unfold fchO at h
  split at h
  · rename_i q
    rcases q with q | q
    · have := (mem_dif (x := x) (y := y)).mpr ⟨hb, eb⟩
      rw [q] at this
      cases this
    · exact dif_all.mp q a ha ea
  · cases h
def fcD : Option (Nat × Nat) → D
  | none => .non
  | some (a, b) => .tup [.int (a : Nat), .int (b : Nat)]
section
variable {P₀ : Program} {w : World} {K : PySem.W.Frag} {mg : Str → Option Value} {base : Heap} {C_Board C_BoardError C_InvalidBoard C_InvalidSetting C_InvalidSize C_InvalidLot C_Refused : Addr}
abbrev s_differing_places : Stmt := top 40
abbrev N_differing_places : List Str := ["one", "other", "at"]
abbrev P_differing_places : List Str := ["one", "other"]
theorem sc_differing_places : FnScope N_differing_places P_differing_places (defScope s_differing_places) := ⟨rfl, rfl, rfl, by decide +kernel, rfl, by decide +kernel, by decide +kernel⟩
def sp_dif : DSp := fun ds M Q _ => ∃ (d e : D) (x y : List Int), ds = [d, e] ∧ SqD M d (x.map D.int) ∧ SqD M e (y.map D.int) ∧ x.length = y.length ∧ x.length ≤ 1000 ∧ ∀ M', Les M M' → Q (.tup (natD (difL x y))) M'
theorem ok_dif {f : Addr} {fd : FuncData} (Dd : Df K mg "differing_places" s_differing_places f fd P_differing_places) (Z : Zs mg) : Cal P₀ w K mg base "differing_places" 1 sp_dif := by
  refine Dd.cal sc_differing_places (fun ds M P PE h => ?_) (fun cdv A outer s H E ds M P PE hr tk h => ⟨_, (dss_one (ds_ret (de_fnT cr_tup Z.tup (da_cons (de_lc sc_differing_places.nd (own := [("at", 2)]) (di_rg1 Z.rng (de_fnB cr_len Z.len (da_cons (de_var 0) da_nil))) (blkOk_by (N := N_differing_places) (sc := defScope s_differing_places) (by decide +kernel)) (ct_name 2)
      (fun _ _ _ _ _ => (pg_name (i := 2) sc_differing_places.nd rfl (.inl rfl))) (fun _ _ _ _ _ => (dts_one (dt_cmp (or_ne hr.r.units) (de_ix (de_var 0) (de_var 2)) (de_ix (de_var 1) (de_var 2))))) (fun _ _ _ _ _ => (de_var 2))) da_nil)))), ?_⟩)
  · obtain ⟨_, _, _, _, rfl, _⟩ := h
    rfl
  · obtain ⟨d, e, x, y, rfl, hd, he, hl, hx, q⟩ := h
    walk_at "w"
    refine .inl ⟨_, hd, ?_⟩
    rw [List.length_map]
    refine ⟨x.length, rfl, ⟨by omega, by omega⟩, ?_⟩
    refine ⟨fun k acc M' => M' = M ∧ acc = natD ((List.range k).filter fun i => decide (x.getD i 0 ≠ y.getD i 0)), ⟨_, .refl _, rfl, rfl⟩, fun _ _ _ _ _ => trivial, ?_, ?_⟩
    · rintro k z acc M' hz ⟨rfl, rfl⟩
      obtain ⟨hk, rfl⟩ := rg_at hz
      have lk : ((List.range k).filter fun i => decide (x.getD i 0 ≠ y.getD i 0)).length ≤ k := by
        have := List.length_filter_le (fun i => decide (x.getD i 0 ≠ y.getD i 0)) (List.range k)
        rw [List.length_range] at this
        exact this
      walk_at "w"
      refine .inl ⟨_, (k : Int), _, hd, rfl, ints_at (get_some hk), ?_⟩
      refine .inl ⟨_, (k : Int), _, he, rfl, ints_at (get_some (by omega)), ?_⟩
      refine ifB_mk (fun h6 => ?_) (fun h6 => ?_)
      · refine ⟨size_ok (by simp only [natD, List.length_map]; omega), _, .refl _, rfl, ?_⟩
        rw [List.range_succ, List.filter_append, List.filter_cons, if_pos (by simpa using h6), List.filter_nil]
        unfold natD
        rw [List.map_append]
        rfl
      · refine ⟨_, .refl _, rfl, ?_⟩
        rw [List.range_succ, List.filter_append, List.filter_cons, if_neg (by simpa using h6), List.filter_nil, List.append_nil]
    · rintro acc M' ⟨rfl, rfl⟩ g hg
      rw [rg_len]
      walk_at "w"
      refine ⟨_, .ref upM_same, ?_⟩
      exact Lk.of (q _ (les_new hg))
abbrev s_full_change : Stmt := top 42
abbrev N_full_change : List Str := ["one", "other", "unlike", "alike", "at"]
abbrev P_full_change : List Str := ["one", "other"]
theorem sc_full_change : FnScope N_full_change P_full_change (defScope s_full_change) := ⟨rfl, rfl, rfl, by decide +kernel, rfl, by decide +kernel, by decide +kernel⟩
def sp_fch : DSp := fun ds M Q _ => ∃ (d e : D) (x y : List Int), ds = [d, e] ∧ SqD M d (x.map D.int) ∧ SqD M e (y.map D.int) ∧ x.length = y.length ∧ x.length ≤ 1000 ∧ ∀ M', Les M M' → Q (fcD (fchO x y)) M'
theorem ok_fch {f : Addr} {fd : FuncData} (Dd : Df K mg "full_change" s_full_change f fd P_full_change) (Z : Zs mg) (G_differing_places : Cal P₀ w K mg base "differing_places" 1 sp_dif) : Cal P₀ w K mg base "full_change" 2 sp_fch := by
  refine Dd.cal sc_full_change (fun ds M P PE h => ?_) (fun cdv A outer s H E ds M P PE hr tk h => ⟨_, (dss_cons (ds_set 2 sc_full_change.nd (de_call G_differing_places (hr.mono (by decide)) tk (da_cons (de_var 0) (da_cons (de_var 1) da_nil))))
    (dss_cons (ds_if (DW.dt (dw_or (dt_not (dt_tru (de_var 2))) (dw_or1 (dt_cmp (or_eq hr.r.units) (de_fnB cr_len Z.len (da_cons (de_var 2) da_nil)) (de_fnB cr_len Z.len (da_cons (de_var 0) da_nil)))))) (dss_one (ds_ret de_non)) dss_nil)
    (dss_cons (ds_setLc 3 sc_full_change.nd (own := [("at", 4)]) (di_rg1 Z.rng (de_fnB cr_len Z.len (da_cons (de_var 0) da_nil))) (blkOk_by (N := N_full_change) (sc := defScope s_full_change) (by decide +kernel)) (ct_name 4)
      (fun _ _ _ _ _ => (pg_name (i := 4) sc_full_change.nd rfl (.inl rfl))) (fun _ _ _ _ _ => (dts_one (dt_cmp (or_notin hr) (de_var 4) (de_var 2)))) (fun _ _ _ _ _ => (de_var 4)))
    (dss_one (ds_ret (de_tup (da_cons (de_ix (de_var 3) de_int) (da_cons (de_ix (de_var 2) de_int) da_nil)))))))), ?_⟩)
  · obtain ⟨_, _, _, _, rfl, _⟩ := h
    rfl
  · obtain ⟨d, e, x, y, rfl, hd, he, hl, hx, q⟩ := h
    walk_at "w"
    refine ⟨d, e, x, y, rfl, hd, he, hl, hx, fun M1 L1 => ?_⟩
    have hd1 := hd.les L1
    have none_ok : difL x y = [] ∨ (difL x y).length = x.length → ∀ M', Les M M' → P .non M' := fun z M' L => by
      have q := q M' L
      unfold fchO at q
      rw [if_pos z] at q
      exact q
    refine ifB_mk (fun h1 => ?_) (fun h1 => ?_)
    · have z : difL x y = [] := by
        have h1 : (!(!(natD (difL x y)).isEmpty)) = true := h1
        rw [Bool.not_not, List.isEmpty_iff] at h1
        exact List.map_eq_nil_iff.mp h1
      walk_at "w"
      exact Lk.of (none_ok (.inl z) M1 L1)
    · have z : difL x y ≠ [] := fun z => by
        have h1 : (!(!(natD (difL x y)).isEmpty)) = false := h1
        rw [z] at h1
        cases h1
      walk_at "w"
      refine .inl ⟨_, .tup, ?_⟩
      refine .inl ⟨_, hd1, ?_⟩
      have e1 : decide (((natD (difL x y)).length : Int) = ((x.map D.int).length : Int)) = decide ((difL x y).length = x.length) := by
        rw [List.length_map, List.length_map]
        exact decide_eq_decide.mpr (by omega)
      refine ifB_mk (fun h2 => ?_) (fun h2 => ?_)
      · have h2 : decide (((natD (difL x y)).length : Int) = ((x.map D.int).length : Int)) = true := h2
        rw [e1] at h2
        exact Lk.of (none_ok (.inr (of_decide_eq_true h2)) M1 L1)
      · have h2 : decide (((natD (difL x y)).length : Int) = ((x.map D.int).length : Int)) = false := h2
        rw [e1] at h2
        have h2 := of_decide_eq_false h2
        walk_at "w"
        refine .inl ⟨_, hd1, ?_⟩
        rw [List.length_map]
        refine ⟨x.length, rfl, ⟨by omega, by omega⟩, ?_⟩
        refine ⟨fun j acc M' => M' = M1 ∧ acc = natD ((List.range j).filter fun i => !decide (i ∈ difL x y)), ⟨_, .refl _, rfl, rfl⟩, fun _ _ _ _ _ => trivial, ?_, ?_⟩
        · rintro j u acc M' hu ⟨rfl, rfl⟩
          obtain ⟨hj, rfl⟩ := rg_at hu
          walk_at "w"
          refine ⟨.int (j : Nat), natD (difL x y), _, .int _, .inl rfl, pds_nat _, shaped_int _, shaped_nat _, ?_⟩
          rw [if_pos rfl, any_nat]
          refine ifB_mk (fun h => ?_) (fun h => ?_)
          · walk_at "w"
            have le := List.length_filter_le (fun i => !decide (i ∈ difL x y)) (List.range j)
            rw [List.length_range] at le
            refine ⟨size_ok (by rw [List.length_map]; omega), _, .refl _, rfl, ?_⟩
            rw [List.range_succ, List.filter_append, natD, natD, List.map_append]
            congr 1
            have h : (!decide (j ∈ difL x y)) = true := h
            rw [List.filter_cons_of_pos (p := fun i => !decide (i ∈ difL x y)) h]
            rfl
          · refine ⟨_, .refl _, rfl, ?_⟩
            rw [List.range_succ, List.filter_append, List.filter_cons_of_neg (p := fun i => !decide (i ∈ difL x y)) (by rw [h]; decide), List.filter_nil, List.append_nil]
        · rintro acc M' ⟨rfl, rfl⟩ g hg
          rw [rg_len, show (List.range x.length).filter (fun i => !decide (i ∈ difL x y)) = simL x y from rfl]
          have Lg := les_new (o := .lst (natD (simL x y))) hg
          have fg : upM M' g (.lst (natD (simL x y))) g = some (.lst (natD (simL x y))) := upM_same
          generalize upM M' g (.lst (natD (simL x y))) = M2 at Lg fg ⊢
          have sn := sim_ne h2
          have hd0 : ∀ {l : List Nat}, l ≠ [] → atI (natD l) ((0 : Nat) : Int) = some (.int (l.headD 0 : Nat)) := fun {l} hl => atI_nat (by
            cases l with
            | nil => exact absurd rfl hl
            | cons a l => rfl)
          walk_at "w"
          refine .inl ⟨_, _, _, .ref fg, rfl, hd0 sn, ?_⟩
          walk_at "w"
          refine .inl ⟨_, _, _, .tup, rfl, hd0 z, ?_⟩
          walk_at "w"
          refine ⟨(by show 2 ≤ sizeLine; decide), ?_⟩
          have q := q M2 (L1.trans Lg)
          unfold fchO at q
          rw [if_neg (by rintro (w | w); exact z w; exact h2 w)] at q
          exact Lk.of q
end
end K83
set_option linter.all false
namespace K83
open PySem PySem.Spec PyProof.Rows L2 DL
local macro_rules | `(tactic| walk_at "w") => `(tactic| conv => whnf)
def rowL (m n : Nat) (ks : List Int) (lot : List Nat) (a : List Int) : List Int := (AL m n (restL n lot)).map fun b => lmV (nsR m n) ks lot a b
/-- what the two contents at i and j say -/
def gives (m n : Nat) (ks : List Int) (lot : List Nat) (u v : List Int) : Option (Nat × Nat) := if (difL u v).length = lot.length then fchO (rowL m n ks lot u) (rowL m n ks lot v) else none
def NoR (m n : Nat) (ks : List Int) (lot : List Nat) (r : D) : Prop :=
  (r = .non ∧ ∀ (i j : Nat) (u v : List Int), (AL m n lot)[i]? = some u → (AL m n lot)[j]? = some v → i < j → gives m n ks lot u v = none) ∨
  (∃ (i j : Nat) (u v b b' : List Int) (x y : Nat), (AL m n lot)[i]? = some u ∧ (AL m n lot)[j]? = some v ∧ i < j ∧ gives m n ks lot u v = some (x, y) ∧ (AL m n (restL n lot))[x]? = some b ∧ (AL m n (restL n lot))[y]? = some b' ∧ r = .tup [tpD u, tpD v, tpD b, tpD b'])
theorem rng2_at {a n : Nat} {i : Nat} {d : D} (h : (rgD (a : Int) (n : Int))[i]? = some d) : a + i < n ∧ d = .int ((a + i : Nat) : Int) := by
  have hi := (List.getElem?_eq_some_iff.mp h).1
  rw [rgD_len] at hi
  rw [rgD_get hi] at h
  cases h
  refine ⟨by omega, ?_⟩
  rw [Int.natCast_add]
section
variable {P₀ : Program} {w : World} {K : PySem.W.Frag} {mg : Str → Option Value} {base : Heap} {C_Board C_BoardError C_InvalidBoard C_InvalidSetting C_InvalidSize C_InvalidLot C_Refused : Addr}
abbrev s_full_no : Stmt := top 43
abbrev N_full_no : List Str := ["board", "lot", "rows", "inner", "one", "u", "other", "found", "outer"]
abbrev P_full_no : List Str := ["board", "lot"]
theorem sc_full_no : FnScope N_full_no P_full_no (defScope s_full_no) := ⟨rfl, rfl, rfl, by decide +kernel, rfl, by decide +kernel, by decide +kernel⟩
def sp_fno (K : PySem.W.Frag) (C_Board C_InvalidLot C_Refused : Addr) : DSp := fun ds M Q PE => ∃ (p : Addr) (e : D) (m n : Nat) (ks : List Int) (o : Option (List D)), ds = [.ref p, e] ∧ BdAt C_Board M p m (nsR m n) ks ∧ Mk m n ks ∧ Vw K M e o ∧
  (FairB (nsR m n) ks → match ldD (n : Nat) o with
    | .non => ∃ lot, o = some (natD lot) ∧ LotOk n lot ∧ ∀ r M', Les M M' → NoR m n ks lot r → Q r M'
    | x => ∀ M', Les M M' → PE ⟨C_InvalidLot, [("at", x)]⟩ M') ∧ (¬ FairB (nsR m n) ks → RfD C_Refused M PE)
theorem ok_fno {f : Addr} {fd : FuncData} (Dd : Df K mg "full_no" s_full_no f fd P_full_no) (Z : Zs mg) (G_need_fair : Cal P₀ w K mg base "need_fair" 4 (sp_nf C_Board C_Refused)) (G_need_lot : Cal P₀ w K mg base "need_lot" 4 (sp_nlot K C_Board C_InvalidLot)) (G_lot_marks : Cal P₀ w K mg base "lot_marks" 4 (sp_lmarks C_Board)) (G_lot_contents : Cal P₀ w K mg base "lot_contents" 2 (sp_cont C_Board)) (G_differing_places : Cal P₀ w K mg base "differing_places" 1 sp_dif) (G_full_change : Cal P₀ w K mg base "full_change" 2 sp_fch) (G_rest_of : Cal P₀ w K mg base "rest_of" 3 (sp_rest C_Board)) :
    FnD P₀ w K mg base 7 f fd P_full_no (sp_fno K C_Board C_InvalidLot C_Refused) := by
  refine fn_D Dd.F sc_full_no (fun ds M P PE h => ?_) (fun cdv A outer s H E ds M P PE hr tk h => ⟨_, (dss_cons (ds_set 1 sc_full_no.nd (de_call G_need_lot (hr.mono (by decide)) tk (da_cons (de_call G_need_fair (hr.mono (by decide)) tk (da_cons (de_var 0) da_nil)) (da_cons (de_var 1) da_nil))))
    (dss_cons (ds_set 2 sc_full_no.nd (de_call G_lot_marks (hr.mono (by decide)) tk (da_cons (de_var 0) (da_cons (de_var 1) da_nil))))
    (dss_cons (ds_set 3 sc_full_no.nd (de_call G_lot_contents (hr.mono (by decide)) tk (da_cons (de_var 0) (da_cons (de_var 1) da_nil))))
    (dss_cons (ds_for (passes_of rfl) (di_en Z.enum (de_var 3)) (dg_tup (n := 2) rfl (dgs_cons (dg_name 4 sc_full_no.nd) (dgs_cons (dg_name 5 sc_full_no.nd) dgs_nil))) (dss_one (ds_for (passes_of rfl) (di_rg2 Z.rng (de_op or_add (de_var 4) de_int) (de_fnB cr_len Z.len (da_cons (de_var 3) da_nil))) (dg_name 6 sc_full_no.nd) (dss_one (ds_if (dt_cmp (or_eq hr.r.units) (de_fnB cr_len Z.len (da_cons (de_call G_differing_places (hr.mono (by decide)) tk (da_cons (de_var 5) (da_cons (de_ix (de_var 3) (de_var 6)) da_nil))) da_nil)) (de_fnB cr_len Z.len (da_cons (de_var 1) da_nil))) (dss_cons (ds_set 7 sc_full_no.nd (de_call G_full_change (hr.mono (by decide)) tk (da_cons (de_ix (de_var 2) (de_var 4)) (da_cons (de_ix (de_var 2) (de_var 6)) da_nil))))
    (dss_one (ds_if (dt_cmp or_isn (de_var 7) de_non) (dss_cons (ds_set 8 sc_full_no.nd (de_call G_lot_contents (hr.mono (by decide)) tk (da_cons (de_var 0) (da_cons (de_call G_rest_of (hr.mono (by decide)) tk (da_cons (de_var 0) (da_cons (de_var 1) da_nil))) da_nil))))
    (dss_one (ds_ret (de_tup (da_cons (de_var 5) (da_cons (de_ix (de_var 3) (de_var 6)) (da_cons (de_ix (de_var 8) (de_ix (de_var 7) de_int)) (da_cons (de_ix (de_var 8) (de_ix (de_var 7) de_int)) da_nil)))))))) dss_nil))) dss_nil)))))
    (dss_one (ds_ret de_non)))))), ?_⟩)
  · obtain ⟨_, _, _, _, _, _, rfl, _⟩ := h
    rfl
  · obtain ⟨p, e, m, n, ks, o, rfl, hp, B, he, q1, q2⟩ := h
    walk_at "w"
    refine ⟨p, m, _, ks, rfl, hp, B.bd, rep_all, fun hF M1 L1 => ?_, fun hF i r c M1 L1 => ⟨_, .refl _, q2 hF i r c M1 L1⟩⟩
    have n4 := B.n4
    walk_at "w"
    refine ⟨p, e, m, nsR m n, ks, o, rfl, L1 _ _ hp, by rw [List.length_replicate]; omega, he.les L1, ?_⟩
    rw [List.length_replicate]
    have q := q1 hF
    by_cases hb : ldD (n : Nat) o = .non
    · rw [hb] at q ⊢
      obtain ⟨lot, rfl, lk, q⟩ := q
      have lr : (nsR m n).length = n := List.length_replicate ..
      have lo : LotOk (nsR m n).length lot := by rw [lr]; exact lk
      have ro : LotOk (nsR m n).length (restL n lot) := by rw [lr]; exact rest_ok n lot
      have pl := prod_lot lo B.bd.n1
      have pr := prod_lot ro B.bd.n1
      have bp : prodI (nsR m n) ≤ 20000 := B.bd.pr
      have la := set_length (ns := atL (nsR m n) lot) (at_n lo B.bd.n1)
      have lb := set_length (ns := atL (nsR m n) (restL n lot)) (at_n ro B.bd.n1)
      have ps : prodI (nsR m n) = ((m ^ n : Nat) : Int) := prod_rep n m
      have sm := B.sm
      walk_at "w"
      refine ⟨p, .tup (natD lot), m, nsR m n, ks, lot, rfl, L1 _ _ hp, B.bf, .tup, lo, fun M2 L2 => ?_⟩
      have L12 := L1.trans L2
      walk_at "w"
      refine ⟨p, .tup (natD lot), m, nsR m n, ks, lot, rfl, L12 _ _ hp, B.bf, .tup, lo, fun M3 L3 => ?_⟩
      have L13 := L12.trans L3
      have eD : lmD (nsR m n) ks lot = .tup ((AL m n lot).map fun a => tpD (rowL m n ks lot a)) := by
        unfold lmD
        congr 1
        refine List.map_congr_left fun a _ => ?_
        unfold rowD rowL
        rw [lr]
        show _ = D.tup (((AL m n (restL n lot)).map fun b => lmV (nsR m n) ks lot a b).map D.int)
        rw [List.map_map]
        rfl
      rw [eD]
      have hAl : ∀ {i : Nat} {u : List Int}, (AL m n lot)[i]? = some u → u.length = lot.length := fun {i u} h => ((AL_is lk).mp (List.mem_of_getElem? h)).1
      have lrow : ∀ a, (rowL m n ks lot a).length = (AL m n (restL n lot)).length := fun a => by unfold rowL; rw [List.length_map]
      have hfc : ∀ {u v : List Int} {x y : Nat}, gives m n ks lot u v = some (x, y) → ∃ b b', (AL m n (restL n lot))[x]? = some b ∧ (AL m n (restL n lot))[y]? = some b'   := fun {u v x y} h => by
        unfold gives at h
        split at h
        · obtain ⟨⟨a1, _⟩, a2, _⟩ := fch_some h
          rw [lrow] at a1 a2
          exact ⟨_, _, List.getElem?_eq_getElem a1, List.getElem?_eq_getElem a2⟩
        · cases h
      have lA : (AL m n lot).length ≤ 512 := by show (setS (atL (nsR m n) lot)).length ≤ 512; omega
      have lB : (AL m n (restL n lot)).length ≤ 512 := by show (setS (atL (nsR m n) (restL n lot))).length ≤ 512; omega
      walk_at "w"
      refine ⟨_, .tup, fun i s M' => Les M3 M' ∧ (∃ x4 x5 x6 x7 x8, s = [some (.ref p), some (.tup (natD lot)), some (.tup ((AL m n lot).map fun a => tpD (rowL m n ks lot a))), some (.tup ((AL m n lot).map tpD)), x4, x5, x6, x7, x8]) ∧ ∀ (i' j : Nat) (u v : List Int), i' < i → (AL m n lot)[i']? = some u → (AL m n lot)[j]? = some v → i' < j → gives m n ks lot u v = none, .of ⟨.refl _, ⟨_, _, _, _, _, rfl⟩, fun i' j u v h => absurd h (Nat.not_lt_zero _)⟩, fun i s M' _ ⟨L, _⟩ => .tup, ?_, ?_⟩
      · rintro i x s M4 hx ⟨L4, ⟨x4, x5, x6, x7, x8, rfl⟩, no⟩
        obtain ⟨d', hx3, rfl⟩ := en_at hx
        rw [List.getElem?_map] at hx3
        obtain ⟨u, hu, rfl⟩ := Option.map_eq_some_iff.mp hx3
        have hi := (List.getElem?_eq_some_iff.mp hu).1
        refine ⟨rfl, ?_⟩
        walk_at "w"
        refine .inl ⟨_, .tup, ?_⟩
        rw [List.length_map]
        refine ⟨_, _, rfl, rfl, ⟨by omega, by omega, by omega, by omega⟩, ?_⟩
        refine ⟨fun k s M' => Les M3 M' ∧ (∃ x6 x7 x8, s = [some (.ref p), some (.tup (natD lot)), some (.tup ((AL m n lot).map fun a => tpD (rowL m n ks lot a))), some (.tup ((AL m n lot).map tpD)), some (.int (i : Nat)), some (tpD u), x6, x7, x8]) ∧ ∀ (j : Nat) (v : List Int), j < i + 1 + k → (AL m n lot)[j]? = some v → i < j → gives m n ks lot u v = none, .of ⟨L4, ⟨_, _, _, rfl⟩, fun j v h1 h2 h3 => by omega⟩, fun _ _ _ _ _ => trivial, ?_, ?_⟩
        · rintro k x s M5 hx ⟨L5, ⟨x6, x7, x8, rfl⟩, no2⟩
          have hk := (List.getElem?_eq_some_iff.mp hx).1
          rw [rgD_len] at hk
          rw [rgD_get hk] at hx
          cases hx
          have hj : i + 1 + k < (AL m n lot).length := by omega
          have ej : (i : Int) + 1 + (k : Nat) = ((i + 1 + k : Nat) : Int) := by omega
          rw [ej]
          have hv : (AL m n lot)[i + 1 + k]? = some ((AL m n lot)[i + 1 + k]) := List.getElem?_eq_getElem hj
          generalize (AL m n lot)[i + 1 + k] = v at hv
          have ixv : atI ((AL m n lot).map tpD) ((i + 1 + k : Nat) : Int) = some (tpD v) := atI_nat (by rw [List.getElem?_map, hv]; rfl)
          have ixr : atI ((AL m n lot).map fun a => tpD (rowL m n ks lot a)) ((i + 1 + k : Nat) : Int) = some (tpD (rowL m n ks lot v)) := atI_nat (by rw [List.getElem?_map, hv]; rfl)
          have ixu : atI ((AL m n lot).map fun a => tpD (rowL m n ks lot a)) ((i : Nat) : Int) = some (tpD (rowL m n ks lot u)) := atI_nat (by rw [List.getElem?_map, hu]; rfl)
          have lu := hAl hu
          have lv' := hAl hv
          have ll := lot_short lk
          have cont : ∀ M', Les M5 M' → ∀ x7 x8, gives m n ks lot u v = none → Wk (fun s M' => Les M3 M' ∧ (∃ x6 x7 x8, s = [some (.ref p), some (.tup (natD lot)), some (.tup ((AL m n lot).map fun a => tpD (rowL m n ks lot a))), some (.tup ((AL m n lot).map tpD)), some (.int (i : Nat)), some (tpD u), x6, x7, x8]) ∧ ∀ (j : Nat) (v : List Int), j < i + 1 + (k + 1) → (AL m n lot)[j]? = some v → i < j → gives m n ks lot u v = none)
              [some (.ref p), some (.tup (natD lot)), some (.tup ((AL m n lot).map fun a => tpD (rowL m n ks lot a))), some (.tup ((AL m n lot).map tpD)), some (.int (i : Nat)), some (tpD u), some (.int ((i + 1 + k : Nat) : Int)), x7, x8] M' := fun M' L' x7 x8 g => .of ⟨L5.trans L', ⟨_, _, _, rfl⟩, fun j w h1 h2 h3 => by
            by_cases e : j = i + 1 + k
            · subst e
              rw [hv] at h2
              cases h2
              exact g
            · exact no2 j w (by omega) h2 h3⟩
          walk_at "w"
          refine .inl ⟨_, _, _, .tup, rfl, ixv, ?_⟩
          refine ⟨tpD u, tpD v, u, v, rfl, .tup, .tup, by omega, by omega, fun M6 L6 => ?_⟩
          walk_at "w"
          refine .inl ⟨_, .tup, ?_⟩
          refine .inl ⟨_, .tup, ?_⟩
          have e1 : decide (((natD (difL u v)).length : Int) = ((natD lot).length : Int)) = decide ((difL u v).length = lot.length) := by
            rw [List.length_map, List.length_map]
            exact decide_eq_decide.mpr (by omega)
          refine ifB_mk (fun h2 => ?_) (fun h2 => ?_)
          · have h2 : decide (((natD (difL u v)).length : Int) = ((natD lot).length : Int)) = true := h2
            rw [e1] at h2
            have h2 := of_decide_eq_true h2
            have eg : gives m n ks lot u v = fchO (rowL m n ks lot u) (rowL m n ks lot v) := if_pos h2
            walk_at "w"
            refine .inl ⟨_, _, _, .tup, rfl, ixu, ?_⟩
            refine .inl ⟨_, _, _, .tup, rfl, ixr, ?_⟩
            refine ⟨_, _, rowL m n ks lot u, rowL m n ks lot v, rfl, .tup, .tup, by rw [lrow, lrow], by rw [lrow]; omega, fun M7 L7 => ?_⟩
            have L57 := L6.trans L7
            cases hf : fchO (rowL m n ks lot u) (rowL m n ks lot v) with
            | none =>
              walk_at "w"
              refine ⟨rfl, ?_⟩
              exact cont M7 L57 _ _ (by rw [eg, hf])
            | some xy =>
              obtain ⟨x, y⟩ := xy
              walk_at "w"
              refine ⟨rfl, ?_⟩
              have L37 := L13.trans (L5.trans L57)
              have eg2 : gives m n ks lot u v = some (x, y) := eg.trans hf
              obtain ⟨b, b', hbx, hby⟩ := hfc eg2
              refine ⟨p, .tup (natD lot), m, nsR m n, ks, lot, rfl, L37 _ _ hp, .tup, by rw [lr]; omega, fun M8 L8 => ?_⟩
              rw [lr]
              walk_at "w"
              refine ⟨p, .tup (natD (restL n lot)), m, nsR m n, ks, restL n lot, rfl, (L37.trans L8) _ _ hp, B.bf, .tup, ro, fun M9 L9 => ?_⟩
              have ixx : atI ((AL m n (restL n lot)).map tpD) ((x : Nat) : Int) = some (tpD b) := atI_nat (by rw [List.getElem?_map, hbx]; rfl)
              have ixy : atI ((AL m n (restL n lot)).map tpD) ((y : Nat) : Int) = some (tpD b') := atI_nat (by rw [List.getElem?_map, hby]; rfl)
              have i0 : atI [D.int (x : Nat), D.int (y : Nat)] ((0 : Nat) : Int) = some (.int (x : Nat)) := atI_nat rfl
              have i1 : atI [D.int (x : Nat), D.int (y : Nat)] ((1 : Nat) : Int) = some (.int (y : Nat)) := atI_nat rfl
              walk_at "w"
              refine .inl ⟨_, _, _, .tup, rfl, ixv, ?_⟩
              walk_at "w"
              refine .inl ⟨_, _, _, .tup, rfl, i0, ?_⟩
              refine .inl ⟨_, _, _, .tup, rfl, ixx, ?_⟩
              walk_at "w"
              refine .inl ⟨_, _, _, .tup, rfl, i1, ?_⟩
              refine .inl ⟨_, _, _, .tup, rfl, ixy, ?_⟩
              refine ⟨(by show 4 ≤ sizeLine; decide), ?_⟩
              exact Lk.of (q _ M9 (L37.trans (L8.trans L9)) (.inr ⟨i, i + 1 + k, u, v, b, b', x, y, hu, hv, by omega, eg2, hbx, hby, rfl⟩))
          · have h2 : decide (((natD (difL u v)).length : Int) = ((natD lot).length : Int)) = false := h2
            rw [e1] at h2
            have h2 := of_decide_eq_false h2
            exact cont M6 L6 _ _ (if_neg h2)
        · rintro s M5 ⟨L5, ⟨x6, x7, x8, rfl⟩, no2⟩
          rw [rgD_len] at no2
          refine .of ⟨L5, ⟨_, _, _, _, _, rfl⟩, fun i' j u' v h1 h2 h3 h4 => ?_⟩
          by_cases e : i' = i
          · subst e
            rw [hu] at h2
            cases h2
            have := (List.getElem?_eq_some_iff.mp h3).1
            exact no2 j v (by omega) h3 h4
          · exact no i' j u' v (by omega) h2 h3 h4
      · rintro s M4 ⟨L4, ⟨x4, x5, x6, x7, x8, rfl⟩, no⟩
        walk_at "w"
        refine ⟨_, .refl _, q .non M4 (L13.trans L4) (.inl ⟨rfl, fun i j u v h1 h2 h3 => ?_⟩)⟩
        have := (List.getElem?_eq_some_iff.mp h1).1
        rw [enD_len, List.length_map] at no
        exact no i j u v this h1 h2 h3
    · obtain ⟨i, hi⟩ := ld_not hb
      rw [hi] at q ⊢
      exact ⟨_, .refl _, q M1 L1⟩
end
end K83
set_option linter.all false
namespace K83
open PySem PySem.Spec PyProof.Rows L2 DL
local macro_rules | `(tactic| walk_at "w") => `(tactic| conv => whnf)
theorem ci_idx {lot : List Nat} {j : Nat} (h : j ∈ lot) : (j : Int) ∈ ciI lot ∧ ∀ x : List Int, atI ((atL x lot).map D.int) (((ciI lot).idxOf (j : Int) : Nat) : Int) = some (.int (x.getD j 0)) := by
  have hm : (j : Int) ∈ ciI lot := List.mem_map.mpr ⟨j, h, rfl⟩
  refine ⟨hm, fun x => atI_nat ?_⟩
  have hl := List.idxOf_lt_length_of_mem hm
  have he := List.getElem_idxOf hl
  generalize (ciI lot).idxOf (j : Int) = i at hl he
  have hl2 : i < lot.length := by rw [List.length_map] at hl; exact hl
  have e2 : lot[i] = j := by
    rw [List.getElem_map] at he
    exact Int.ofNat.inj he
  unfold atL
  rw [List.map_map, List.getElem?_map, List.getElem?_eq_getElem hl2, e2]
  rfl
section
variable {P₀ : Program} {w : World} {K : PySem.W.Frag} {mg : Str → Option Value} {base : Heap} {C_Board C_BoardError C_InvalidBoard C_InvalidSetting C_InvalidSize C_InvalidLot C_Refused : Addr}
abbrev s__law_laid : Stmt := top 61
abbrev N__law_laid : List Str := ["size", "lot", "inside", "outside", "rest", "part"]
abbrev P__law_laid : List Str := ["size", "lot", "inside", "outside"]
theorem sc__law_laid : FnScope N__law_laid P__law_laid (defScope s__law_laid) := ⟨rfl, rfl, rfl, by decide +kernel, rfl, by decide +kernel, by decide +kernel⟩
def sp_laid : DSp := fun ds M Q _ => ∃ (n : Nat) (d e : D) (lot : List Nat) (x : List Int), ds = [.int n, .tup (natD lot), d, e] ∧ SqD M d ((atL x lot).map D.int) ∧ SqD M e ((atL x (restL n lot)).map D.int) ∧ x.length = n ∧ n ≤ 100 ∧ LotOk n lot ∧ ∀ g M', Les M M' → M g = none → M' g = some (.lst (x.map D.int)) → Q (.ref g) M'
theorem ok_laid {f : Addr} {fd : FuncData} (Dd : Df K mg "_law_laid" s__law_laid f fd P__law_laid) (Z : Zs mg) : Cal P₀ w K mg base "_law_laid" 1 sp_laid := by
  refine Dd.cal sc__law_laid (fun ds M P PE h => ?_) (fun cdv A outer s H E ds M P PE hr tk h => ⟨_, (dss_cons (ds_set 4 sc__law_laid.nd (de_lc sc__law_laid.nd (own := [("part", 5)]) (di_rg1 Z.rng (de_var 0)) (blkOk_by (N := N__law_laid) (sc := defScope s__law_laid) (by decide +kernel)) (ct_name 5)
      (fun _ _ _ _ _ => (pg_name (i := 5) sc__law_laid.nd rfl (.inl rfl))) (fun _ _ _ _ _ => (dts_one (dt_cmp (or_notin hr) (de_var 5) (de_var 1)))) (fun _ _ _ _ _ => (de_var 5))))
    (dss_one (ds_ret (de_lc sc__law_laid.nd (own := [("part", 5)]) (di_rg1 Z.rng (de_var 0)) (blkOk_by (N := N__law_laid) (sc := defScope s__law_laid) (by decide +kernel)) (ct_name 5)
      (fun _ _ _ _ _ => (pg_name (i := 5) sc__law_laid.nd rfl (.inl rfl))) (fun _ _ _ _ _ => dts_nil) (fun _ _ _ _ _ => (de_ite (dt_cmp (or_in hr) (de_var 5) (de_var 1)) (de_ix (de_var 2) (de_tix (de_var 1) (de_var 5) ⟨rfl, rfl, rfl, rfl⟩)) (de_ix (de_var 3) (de_mt PySem.F.slot_list_index PySem.F.type_list_index (mt_idx hr) (de_var 4) (da_cons (de_var 5) da_nil))))))))), ?_⟩)
  · obtain ⟨_, _, _, _, _, rfl, _⟩ := h
    rfl
  · obtain ⟨n, d, e, lot, x, rfl, hd, he, lx, n1, lk, qq⟩ := h
    walk_at "w"
    refine ⟨n, rfl, ⟨by omega, by omega⟩, ?_⟩
    refine ⟨fun j acc M' => M' = M ∧ acc = natD ((List.range j).filter fun i => !decide (i ∈ lot)), ⟨_, .refl _, rfl, rfl⟩, fun _ _ _ _ _ => trivial, ?_, ?_⟩
    · rintro j u acc M' hu ⟨rfl, rfl⟩
      obtain ⟨hj, rfl⟩ := rg_at hu
      walk_at "w"
      refine ⟨.int (j : Nat), natD lot, _, .int _, .inl rfl, pds_nat lot, shaped_int _, shaped_nat lot, ?_⟩
      rw [if_pos rfl, any_nat]
      refine ifB_mk (fun h => ?_) (fun h => ?_)
      · walk_at "w"
        have le := List.length_filter_le (fun i => !decide (i ∈ lot)) (List.range j)
        rw [List.length_range] at le
        refine ⟨size_ok (by rw [List.length_map]; omega), _, .refl _, rfl, ?_⟩
        rw [List.range_succ, List.filter_append, natD, natD, List.map_append]
        congr 1
        have h : (!decide (j ∈ lot)) = true := h
        rw [List.filter_cons_of_pos (p := fun i => !decide (i ∈ lot)) h]
        rfl
      · refine ⟨_, .refl _, rfl, ?_⟩
        rw [List.range_succ, List.filter_append, List.filter_cons_of_neg (p := fun i => !decide (i ∈ lot)) (by rw [h]; decide), List.filter_nil, List.append_nil]
    · rintro acc M' ⟨rfl, rfl⟩ r hr
      rw [rg_len, show (List.range n).filter (fun i => !decide (i ∈ lot)) = restL n lot from rfl]
      have Lr := les_new (o := .lst (natD (restL n lot))) hr
      have fr : upM M' r (.lst (natD (restL n lot))) r = some (.lst (natD (restL n lot))) := upM_same
      generalize upM M' r (.lst (natD (restL n lot))) = M1 at Lr fr ⊢
      have hd1 := hd.les Lr
      have he1 := he.les Lr
      walk_at "w"
      refine ⟨n, rfl, ⟨by omega, by omega⟩, ?_⟩
      refine ⟨fun j acc M' => M' = M1 ∧ acc = (x.take j).map D.int, ⟨_, .refl _, rfl, rfl⟩, fun _ _ _ _ _ => trivial, ?_, ?_⟩
      · rintro j u acc M2 hu ⟨rfl, rfl⟩
        obtain ⟨hj, rfl⟩ := rg_at hu
        have hxj : x[j]? = some (x.getD j 0) := get_some (by omega)
        have fin : (((x.take j).map D.int).length < sizeLine) ∧ ∃ M5, Les M5 M2 ∧ (M5 = M2 ∧ (x.take j).map D.int ++ [.int (x.getD j 0)] = (x.take (j + 1)).map D.int) := ⟨size_ok (by simp; omega), M2, .refl _, rfl, by rw [List.take_add_one, hxj, List.map_append]; rfl⟩
        walk_at "w"
        refine ⟨.int (j : Nat), natD lot, _, .int _, .inl rfl, pds_nat lot, shaped_int _, shaped_nat lot, ?_⟩
        rw [if_neg Bool.false_ne_true, any_nat]
        refine ifB_mk (fun h => ?_) (fun h => ?_)
        · have h := of_decide_eq_true h
          obtain ⟨c1, c2⟩ := ci_idx h
          walk_at "w"
          refine ⟨⟨_, rfl⟩, ?_⟩
          refine ⟨ciI lot, (j : Int), by rw [natD_int], rfl, c1, ?_⟩
          refine .inl ⟨_, _, _, hd1, rfl, c2 x, ?_⟩
          exact fin
        · have h := of_decide_eq_false h
          have hr : j ∈ restL n lot := mem_rest.mpr ⟨hj, h⟩
          obtain ⟨c1, c2⟩ := ci_idx hr
          have nd : (ciI (restL n lot)).Nodup := List.pairwise_map.mpr ((rest_nd n lot).imp fun ne e => ne (Int.ofNat.inj e))
          have hl := List.idxOf_lt_length_of_mem c1
          have hg := List.getElem_idxOf hl
          have c2 := c2 x
          generalize (ciI (restL n lot)).idxOf (j : Int) = i at hl hg c2
          walk_at "w"
          refine ⟨⟨r, _, rfl, .inl fr⟩, ?_⟩
          refine ⟨r, .int (j : Nat), natD (restL n lot), .int (j : Nat), (ciI (restL n lot)).map PyData.int, i, .int (j : Nat), rfl, rfl, fr, by rw [natD_int]; exact pd_ints _, .int _, shaped_li _, shaped_int _, ?_, by simp [PyData.eqv], fun m z' hm hz => ?_, ?_⟩
          · rw [List.getElem?_map, List.getElem?_eq_getElem hl, hg]
            rfl
          · rw [List.getElem?_map] at hz
            obtain ⟨v, hv, rfl⟩ := Option.map_eq_some_iff.mp hz
            have hml := (List.getElem?_eq_some_iff.mp hv).1
            have ne : v ≠ (j : Int) := fun e => by
              obtain ⟨hm2, e3⟩ := List.getElem?_eq_some_iff.mp hv
              have := (List.getElem_inj (h₀ := hm2) (h₁ := hl) nd).mp (e3.trans (e.trans hg.symm))
              omega
            simp [PyData.eqv, ne]
          · refine .inl ⟨_, _, _, he1, rfl, c2, ?_⟩
            exact fin
      · rintro acc M2 ⟨rfl, rfl⟩ g hg
        rw [rg_len, ← lx, List.take_length]
        have Lg := les_new (o := .lst (x.map D.int)) hg
        exact Lk.of (qq g _ (Lr.trans Lg) (Lr.free hg) upM_same)
end
end K83
set_option linter.all false
namespace K83
open PySem PySem.Spec PyProof.Rows L2 DL
local macro_rules | `(tactic| walk_at "w") => `(tactic| conv => whnf)
section
variable {P₀ : Program} {w : World} {K : PySem.W.Frag} {mg : Str → Option Value} {base : Heap} {C_Board C_BoardError C_InvalidBoard C_InvalidSetting C_InvalidSize C_InvalidLot C_Refused : Addr}
abbrev s__law_is_contents : Stmt := top 62
abbrev N__law_is_contents : List Str := ["value", "many", "size", "one"]
abbrev P__law_is_contents : List Str := ["value", "many", "size"]
theorem sc__law_is_contents : FnScope N__law_is_contents P__law_is_contents (defScope s__law_is_contents) := ⟨rfl, rfl, rfl, by decide +kernel, rfl, by decide +kernel, by decide +kernel⟩
def sp_lcon : DSp := fun ds M Q _ => ∃ (m k : Nat) (r : List Int), ds = [tpD r, .int m, .int k] ∧ r.length = k ∧ (∀ v ∈ r, 0 ≤ v ∧ v < m) ∧ k ≤ 100 ∧ ∀ M', Les M M' → Q (.bl true) M'
theorem ok_lcon {f : Addr} {fd : FuncData} (Dd : Df K mg "_law_is_contents" s__law_is_contents f fd P__law_is_contents) (Z : Zs mg) : Cal P₀ w K mg base "_law_is_contents" 1 sp_lcon := by
  refine Dd.cal sc__law_is_contents (fun ds M P PE h => ?_) (fun cdv A outer s H E ds M P PE hr tk h => ⟨_, (dss_cons (ds_if (DW.dt (dw_or (dt_not (dt_tru (de_isi (T := "tuple") Z.isi Z.tup (de_var 0)))) (dw_or1 (dt_cmp (or_ne hr.r.units) (de_fnB cr_len Z.len (da_cons (de_var 0) da_nil)) (de_var 2))))) (dss_one (ds_ret de_bl)) dss_nil)
    (dss_one (ds_ret (de_cmp (or_eq hr.r.units) (de_fnB cr_len Z.len (da_cons (de_lc sc__law_is_contents.nd (own := [("one", 3)]) (di_sq (de_var 0)) (blkOk_by (N := N__law_is_contents) (sc := defScope s__law_is_contents) (by decide +kernel)) (ct_name 3)
      (fun _ _ _ _ _ => (pg_name (i := 3) sc__law_is_contents.nd rfl (.inl rfl))) (fun _ _ _ _ _ => (dts_one (DW.dt (dw_or (dt_tru (de_isiK K rfl (T := "bool") Z.isi Z.bool (de_var 3))) (dw_or (dt_not (dt_tru (de_isiK K rfl (T := "int") Z.isi Z.int (de_var 3)))) (dw_or1 (dt_not (dt_ch or_le or_lt de_int (de_var 3) (de_var 1))))))))) (fun _ _ _ _ _ => de_int)) da_nil)) de_int)))), ?_⟩)
  · obtain ⟨_, _, _, rfl, _⟩ := h
    rfl
  · obtain ⟨m, k, r, rfl, hl, hv, k1, qq⟩ := h
    walk_at "w"
    refine ⟨.tup, rfl, trivial, ?_⟩
    walk_at "w"
    refine .inl ⟨_, .tup, ?_⟩
    rw [List.length_map]
    refine ifB_f (show (!decide ((r.length : Int) = (k : Int))) = false by rw [hl]; simp) ?_
    walk_at "w"
    refine ⟨_, .tup, fun j acc M' => M' = M ∧ acc = [], ⟨_, .refl _, rfl, rfl⟩, fun _ _ _ _ _ => .tup, ?_, ?_⟩
    · rintro j u acc M' hu ⟨rfl, rfl⟩
      obtain ⟨v, h1, rfl⟩ := int_at hu
      have rv := hv v (List.mem_of_getElem? h1)
      walk_at "w"
      refine ⟨.int, rfl, trivial, ?_⟩
      walk_at "w"
      refine ⟨.int, rfl, trivial, ?_⟩
      refine ifB_t (show decide ((0 : Int) ≤ v) = true from decide_eq_true rv.1) ?_
      refine ifB_f (show (!decide (v < (m : Int))) = false by rw [decide_eq_true rv.2]; rfl) ?_
      exact ⟨_, .refl _, rfl, rfl⟩
    · rintro acc M' ⟨rfl, rfl⟩ g hg
      refine .inl ⟨_, .ref upM_same, ?_⟩
      exact Lk.of (qq _ (les_new hg))
abbrev s__law_same : Stmt := top 64
abbrev N__law_same : List Str := ["many", "size", "marks", "lot", "deal", "inside", "outside", "turn", "one", "other", "alike", "part", "place"]
abbrev P__law_same : List Str := ["many", "size", "marks", "lot", "deal"]
theorem sc__law_same : FnScope N__law_same P__law_same (defScope s__law_same) := ⟨rfl, rfl, rfl, by decide +kernel, rfl, by decide +kernel, by decide +kernel⟩
def sp_lsame : DSp := fun ds M Q _ => ∃ (p q : Addr) (m n : Nat) (e : Addr) (ks : List Int) (lot : List Nat) (N : DHp), ds = [.int m, .int n, .ref e, .tup (natD lot), .ref p] ∧ Rs N M p q ∧ N e = some (.lst (ks.map D.int)) ∧ Mk m n ks ∧ lot.Pairwise (· < ·) ∧ (∀ i ∈ lot, i < n) ∧ Same (AL m n lot) (AL m n (restL n lot)) (lmV (nsR m n) ks lot) ∧ ∀ M', Rs N M' p q → Q (.bl true) M'
theorem ok_lsame {f : Addr} {fd : FuncData} (Dd : Df K mg "_law_same" s__law_same f fd P__law_same) (Z : Zs mg) (G__law_places : Cal P₀ w K mg base "_law_places" 1 sp_plc) (G__law_pick : Cal P₀ w K mg base "_law_pick" 2 sp_lpick) : Cal P₀ w K mg base "_law_same" 3 sp_lsame := by
  refine Dd.cal sc__law_same (fun ds M P PE h => ?_) (fun cdv A outer s H E ds M P PE hr tk h => ⟨_, (dss_cons (ds_set 5 sc__law_same.nd (de_call G__law_places (hr.mono (by decide)) tk (da_cons (de_var 0) (da_cons (de_var 1) (da_cons (de_var 3) da_nil)))))
    (dss_cons (ds_set 6 sc__law_same.nd (de_call G__law_places (hr.mono (by decide)) tk (da_cons (de_var 0) (da_cons (de_var 1) (da_cons (de_lc sc__law_same.nd (own := [("part", 11)]) (di_rg1 Z.rng (de_var 1)) (blkOk_by (N := N__law_same) (sc := defScope s__law_same) (by decide +kernel)) (ct_name 11)
      (fun _ _ _ _ _ => (pg_name (i := 11) sc__law_same.nd rfl (.inl rfl))) (fun _ _ _ _ _ => (dts_one (dt_cmp (or_notin hr) (de_var 11) (de_var 3)))) (fun _ _ _ _ _ => (de_var 11))) da_nil)))))
    (dss_cons (ds_for (passes_of rfl) (di_rg1 Z.rng de_int) (dg_name 7 sc__law_same.nd) (dss_cons (ds_asg (de_tup (da_cons (de_call G__law_pick (hr.mono (by decide)) tk (da_cons (de_var 4) (da_cons (de_var 5) da_nil))) (da_cons (de_call G__law_pick (hr.mono (by decide)) tk (da_cons (de_var 4) (da_cons (de_var 5) da_nil))) da_nil))) (dg_tup (n := 2) rfl (dgs_cons (dg_name 8 sc__law_same.nd) (dgs_cons (dg_name 9 sc__law_same.nd) dgs_nil))))
    (dss_cons (ds_set 10 sc__law_same.nd (de_fnB cr_len Z.len (da_cons (de_lc sc__law_same.nd (own := [("place", 12)]) (di_sq (de_var 6)) (blkOk_by (N := N__law_same) (sc := defScope s__law_same) (by decide +kernel)) (ct_name 12)
      (fun _ _ _ _ _ => (pg_name (i := 12) sc__law_same.nd rfl (.inl rfl))) (fun _ _ _ _ _ => (dts_one (dt_cmp (or_eq hr.r.units) (de_ix (de_var 2) (de_op or_add (de_var 12) (de_var 8))) (de_ix (de_var 2) (de_op or_add (de_var 12) (de_var 9)))))) (fun _ _ _ _ _ => de_int)) da_nil)))
    (dss_one (ds_if (dt_cmp (or_notin hr) (de_var 10) (de_tup (da_cons de_int (da_cons (de_fnB cr_len Z.len (da_cons (de_var 6) da_nil)) da_nil)))) (dss_one (ds_ret de_bl)) dss_nil)))))
    (dss_one (ds_ret de_bl))))), ?_⟩)
  · obtain ⟨_, _, _, _, _, _, _, _, rfl, _⟩ := h
    rfl
  · obtain ⟨p, q, m, n, e, ks, lot, N, rfl, R, fe, B, asc, lt, S, qq⟩ := h
    have m2 := B.m2
    have m8 := B.m8
    have n4 := B.n4
    have sm := B.sm
    have lk := lot_ok (m := m) asc lt
    have ro := rest_ok (nsR m n).length lot
    have pl := prod_lot lk B.bd.n1
    have pr := prod_lot ro B.bd.n1
    have bp : prodI (nsR m n) ≤ 20000 := B.bd.pr
    have la := set_length (ns := atL (nsR m n) lot) (at_n lk B.bd.n1)
    have lb := set_length (ns := atL (nsR m n) (restL (nsR m n).length lot)) (at_n ro B.bd.n1)
    have pa1 := prod_pos (ns := atL (nsR m n) lot) (at_n lk B.bd.n1)
    rw [show (nsR m n).length = n from List.length_replicate ..] at pr lb
    walk_at "w"
    refine ⟨m, n, .tup (natD lot), lot, rfl, .tup, m2, m8, n4, sm, fun i M1 L1 hi fi => ?_⟩
    rw [plc_set asc lt] at fi
    obtain ⟨N1, l1, R1, fi1⟩ := R.newQ L1 hi fi
    walk_at "w"
    refine ⟨n, rfl, ⟨by omega, by omega⟩, ?_⟩
    refine ⟨fun j acc M' => M' = M1 ∧ acc = natD ((List.range j).filter fun i => !decide (i ∈ lot)), ⟨_, .refl _, rfl, rfl⟩, fun _ _ _ _ _ => trivial, ?_, ?_⟩
    · rintro j u acc M' hu ⟨rfl, rfl⟩
      obtain ⟨hj, rfl⟩ := rg_at hu
      walk_at "w"
      refine ⟨.int (j : Nat), natD lot, _, .int _, .inl rfl, pds_nat lot, shaped_int _, shaped_nat lot, ?_⟩
      rw [if_pos rfl, any_nat]
      refine ifB_mk (fun h => ?_) (fun h => ?_)
      · walk_at "w"
        have le := List.length_filter_le (fun i => !decide (i ∈ lot)) (List.range j)
        rw [List.length_range] at le
        refine ⟨size_ok (by rw [List.length_map]; omega), _, .refl _, rfl, ?_⟩
        rw [List.range_succ, List.filter_append, natD, natD, List.map_append]
        congr 1
        have h : (!decide (j ∈ lot)) = true := h
        rw [List.filter_cons_of_pos (p := fun i => !decide (i ∈ lot)) h]
        rfl
      · refine ⟨_, .refl _, rfl, ?_⟩
        rw [List.range_succ, List.filter_append, List.filter_cons_of_neg (p := fun i => !decide (i ∈ lot)) (by rw [h]; decide), List.filter_nil, List.append_nil]
    · rintro acc M' ⟨rfl, rfl⟩ r hr
      rw [rg_len, show (List.range n).filter (fun i => !decide (i ∈ lot)) = restL n lot from rfl]
      have R2 := R1.new (o := .lst (natD (restL n lot))) hr
      have l2 := R1.newl (o := .lst (natD (restL n lot))) hr
      have fr := R2.l _ _ (upM_same (M := N1) (a := r) (o := .lst (natD (restL n lot))))
      replace R2 := R2.les l2
      generalize upM M' r (.lst (natD (restL n lot))) = M2 at R2 fr ⊢
      walk_at "w"
      refine ⟨m, n, .ref r, restL n lot, rfl, .ref fr, m2, m8, n4, sm, fun g M3 L3 hg fg => ?_⟩
      rw [plc_set (rest_asc n lot) fun i hi => (mem_rest.mp hi).1] at fg
      obtain ⟨N3, l3, R3, fg3⟩ := R2.newQ L3 hg fg
      have fi3 := l3 _ _ fi1
      have fe3 := (l1.trans l3) _ _ fe
      have l03 := l1.trans l3
      walk_at "w"
      refine ⟨6, rfl, ⟨by decide, by decide⟩, ?_⟩
      refine ⟨fun j s M' => Rs N3 M' p q ∧ ∃ x7 x8 x9 x10 x11 x12, s = [some (.int m), some (.int n), some (.ref e), some (.tup (natD lot)), some (.ref p), some (.ref i), some (.ref g), x7, x8, x9, x10, x11, x12], .of ⟨R3, _, _, _, _, _, _, rfl⟩, fun _ _ _ _ _ => trivial, ?_, ?_⟩
      · rintro j x s M4 hx ⟨R4, x7, x8, x9, x10, x11, x12, rfl⟩
        walk_at "w"
        have pos : 0 < (((AL m n lot).map (stepL (nsR m n) lot)).map D.int).length := by rw [List.length_map, List.length_map]; show 0 < (setS (atL (nsR m n) lot)).length; omega
        have few : (((AL m n lot).map (stepL (nsR m n) lot)).map D.int).length < 1073741824 := by rw [List.length_map, List.length_map]; show (setS (atL (nsR m n) lot)).length < _; omega
        refine ⟨p, q, .ref i, _, N3, rfl, R4, .ref fi3, pos, few, fun v M5 R5 hv => ?_⟩
        walk_at "w"
        refine ⟨p, q, .ref i, _, N3, rfl, R5, .ref fi3, pos, few, fun v' M6 R6 hv' => ?_⟩
        rw [List.map_map] at hv hv'
        obtain ⟨a, ha, rfl⟩ := List.mem_map.mp hv
        obtain ⟨a', ha', rfl⟩ := List.mem_map.mp hv'
        have ia := mem_setS.mp ha
        have ia' := mem_setS.mp ha'
        refine ⟨(by show 2 ≤ sizeLine; decide), rfl, ?_⟩
        walk_at "w"
        have fg6 := R6.l _ _ fg3
        have fe6 := R6.l _ _ fe3
        refine ⟨_, .ref fg6, fun k acc M' => M' = M6 ∧ acc = ((((AL m n (restL n lot)).take k).filter fun b => decide (lmV (nsR m n) ks lot a b = lmV (nsR m n) ks lot a' b)).map fun _ => D.int 1), ⟨_, .refl _, rfl, rfl⟩, fun k acc M' _ ⟨h, _⟩ => h ▸ .ref fg6, ?_, ?_⟩
        · rintro k u acc M' hu ⟨rfl, rfl⟩
          rw [List.getElem?_map, List.getElem?_map] at hu
          obtain ⟨v, hv2, rfl⟩ := Option.map_eq_some_iff.mp hu
          obtain ⟨b, hb, rfl⟩ := Option.map_eq_some_iff.mp hv2
          have hk := (List.getElem?_eq_some_iff.mp hb).1
          have ib := mem_setS.mp (List.mem_of_getElem? hb)
          have tk1 : (AL m n (restL n lot)).take (k + 1) = (AL m n (restL n lot)).take k ++ [b] := by rw [List.take_add_one, hb]; rfl
          have fl := List.length_filter_le (fun b => decide (lmV (nsR m n) ks lot a b = lmV (nsR m n) ks lot a' b)) ((AL m n (restL n lot)).take k)
          rw [List.length_take] at fl
          walk_at "w"
          refine .inl ⟨_, _, _, .ref fe6, rfl, mk_at B asc lt ia ib, ?_⟩
          refine .inl ⟨_, _, _, .ref fe6, rfl, mk_at B asc lt ia' ib, ?_⟩
          refine ifB_mk (fun h => ?_) (fun h => ?_)
          · have h : decide (lmV (nsR m n) ks lot a b = lmV (nsR m n) ks lot a' b) = true := h
            refine ⟨size_ok (by rw [List.length_map]; omega), _, .refl _, rfl, ?_⟩
            rw [tk1, List.filter_append, List.map_append, List.filter_cons_of_pos (p := fun b => decide (lmV (nsR m n) ks lot a b = lmV (nsR m n) ks lot a' b)) h]
            rfl
          · have h : ¬ decide (lmV (nsR m n) ks lot a b = lmV (nsR m n) ks lot a' b) = true := by rw [show decide (lmV (nsR m n) ks lot a b = lmV (nsR m n) ks lot a' b) = false from h]; decide
            refine ⟨_, .refl _, rfl, ?_⟩
            rw [tk1, List.filter_append, List.filter_cons_of_neg (p := fun b => decide (lmV (nsR m n) ks lot a b = lmV (nsR m n) ks lot a' b)) h, List.filter_nil, List.append_nil]
        · rintro acc M' ⟨rfl, rfl⟩ h hh
          rw [List.length_map, List.length_map, show (setS (atL (nsR m n) (restL n lot))) = AL m n (restL n lot) from rfl, List.take_length]
          have R7 := R6.to (les_new (o := .lst (((AL m n (restL n lot)).filter fun b => decide (lmV (nsR m n) ks lot a b = lmV (nsR m n) ks lot a' b)).map fun _ => D.int 1)) hh)
          have fh : upM M' h (.lst (((AL m n (restL n lot)).filter fun b => decide (lmV (nsR m n) ks lot a b = lmV (nsR m n) ks lot a' b)).map fun _ => D.int 1)) h = _ := upM_same
          generalize upM M' h (.lst (((AL m n (restL n lot)).filter fun b => decide (lmV (nsR m n) ks lot a b = lmV (nsR m n) ks lot a' b)).map fun _ => D.int 1)) = M7 at R7 fh ⊢
          have alt : ((AL m n (restL n lot)).filter fun b => decide (lmV (nsR m n) ks lot a b = lmV (nsR m n) ks lot a' b)).length = 0 ∨ ((AL m n (restL n lot)).filter fun b => decide (lmV (nsR m n) ks lot a b = lmV (nsR m n) ks lot a' b)).length = (AL m n (restL n lot)).length := by
            by_cases z : ∃ b ∈ AL m n (restL n lot), lmV (nsR m n) ks lot a b = lmV (nsR m n) ks lot a' b
            · obtain ⟨b, hb, e1⟩ := z
              refine .inr (List.length_filter_eq_length_iff.mpr fun c hc => decide_eq_true ?_)
              exact ((nums_pat (S b hb c hc)) a ha a' ha').mp e1
            · refine .inl (List.length_eq_zero_iff.mpr (List.filter_eq_nil_iff.mpr fun c hc => ?_))
              rw [decide_eq_true_eq]
              exact fun e1 => z ⟨c, hc, e1⟩
          refine .inl ⟨_, .ref fh, ?_⟩
          rw [List.length_map]
          generalize ((AL m n (restL n lot)).filter fun b => decide (lmV (nsR m n) ks lot a b = lmV (nsR m n) ks lot a' b)).length = cnt at alt ⊢
          walk_at "w"
          refine .inl ⟨_, .ref (R7.l _ _ fg3), ?_⟩
          rw [List.length_map, List.length_map]
          refine ⟨(by show 2 ≤ sizeLine; decide), ?_⟩
          refine ⟨.int (cnt : Nat), [.int 0, .int ((AL m n (restL n lot)).length : Nat)], [.int 0, .int ((AL m n (restL n lot)).length : Nat)], .int _, .inl rfl, .cons (.int _) (.cons (.int _) .nil), shaped_int _, shaped_tup [0, ((AL m n (restL n lot)).length : Nat)], ?_⟩
          refine ifB_f ?_ ?_
          · rw [if_pos rfl]
            rcases alt with z | z
            · subst z
              simp [PyData.eqv]
            · subst z
              simp [PyData.eqv]
          · exact .of ⟨R7, _, _, _, _, _, _, rfl⟩
      · rintro s M4 ⟨R4, x7, x8, x9, x10, x11, x12, rfl⟩
        walk_at "w"
        exact Lk.of (qq M4 (R4.les l03))
end
end K83
set_option linter.all false
namespace K83
open PySem PySem.Spec PyProof.Rows L2 DL
local macro_rules | `(tactic| walk_at "w") => `(tactic| conv => whnf)
section
variable {P₀ : Program} {w : World} {K : PySem.W.Frag} {mg : Str → Option Value} {base : Heap} {C_Board C_BoardError C_InvalidBoard C_InvalidSetting C_InvalidSize C_InvalidLot C_Refused : Addr}
abbrev s__law_holds : Stmt := top 63
abbrev N__law_holds : List Str := ["many", "size", "marks", "lot", "no", "at", "value", "looks", "to"]
abbrev P__law_holds : List Str := ["many", "size", "marks", "lot", "no"]
theorem sc__law_holds : FnScope N__law_holds P__law_holds (defScope s__law_holds) := ⟨rfl, rfl, rfl, by decide +kernel, rfl, by decide +kernel, by decide +kernel⟩
def sp_lholds : DSp := fun ds M Q _ => ∃ (m n : Nat) (e : D) (ks : List Int) (lot : List Nat) (u v b b' : List Int), ds = [.int m, .int n, e, .tup (natD lot), .tup [tpD u, tpD v, tpD b, tpD b']] ∧ SqD M e (ks.map D.int) ∧ Mk m n ks ∧ LotOk n lot ∧ u ∈ AL m n lot ∧ v ∈ AL m n lot ∧ b ∈ AL m n (restL n lot) ∧ b' ∈ AL m n (restL n lot) ∧
  HT.lexLt u v = true ∧ Full lot u v ∧ IsNo m n ks lot u v b b' ∧ ∀ M', Les M M' → Q (.bl true) M'
theorem ok_lholds {f : Addr} {fd : FuncData} (Dd : Df K mg "_law_holds" s__law_holds f fd P__law_holds) (Z : Zs mg) (G__law_is_contents : Cal P₀ w K mg base "_law_is_contents" 1 sp_lcon) (G__law_laid : Cal P₀ w K mg base "_law_laid" 1 sp_laid) (G__law_number : Cal P₀ w K mg base "_law_number" 1 sp_lnum) : Cal P₀ w K mg base "_law_holds" 2 sp_lholds := by
  refine Dd.cal sc__law_holds (fun ds M P PE h => ?_) (fun cdv A outer s H E ds M P PE hr tk h => ⟨_, (dss_cons (ds_if (DW.dt (dw_or (dt_not (dt_tru (de_isi (T := "tuple") Z.isi Z.tup (de_var 4)))) (dw_or1 (dt_cmp (or_ne hr.r.units) (de_fnB cr_len Z.len (da_cons (de_var 4) da_nil)) de_int)))) (dss_one (ds_ret de_bl)) dss_nil)
    (dss_cons (ds_for (passes_of rfl) (di_en Z.enum (de_var 4)) (dg_tup (n := 2) rfl (dgs_cons (dg_name 5 sc__law_holds.nd) (dgs_cons (dg_name 6 sc__law_holds.nd) dgs_nil))) (dss_one (ds_if (dt_not (dt_tru (de_call G__law_is_contents (hr.mono (by decide)) tk (da_cons (de_var 6) (da_cons (de_var 0) (da_cons (de_ite (dt_cmp or_lt (de_var 5) de_int) (de_fnB cr_len Z.len (da_cons (de_var 3) da_nil)) (de_op or_sub (de_var 1) (de_fnB cr_len Z.len (da_cons (de_var 3) da_nil)))) da_nil)))))) (dss_one (ds_ret de_bl)) dss_nil)))
    (dss_cons (ds_if (DW.dt (dw_or (dt_not (dt_cmp (or_ltT hr) (de_ix (de_var 4) de_int) (de_ix (de_var 4) de_int))) (dw_or1 (dt_cmp (or_ne hr.r.units) (de_lc sc__law_holds.nd (own := [("at", 5)]) (di_rg1 Z.rng (de_fnB cr_len Z.len (da_cons (de_var 3) da_nil))) (blkOk_by (N := N__law_holds) (sc := defScope s__law_holds) (by decide +kernel)) (ct_name 5)
      (fun _ _ _ _ _ => (pg_name (i := 5) sc__law_holds.nd rfl (.inl rfl))) (fun _ _ _ _ _ => (dts_one (dt_cmp (or_eq hr.r.units) (de_ix (de_ix (de_var 4) de_int) (de_var 5)) (de_ix (de_ix (de_var 4) de_int) (de_var 5))))) (fun _ _ _ _ _ => de_int)) (de_lst da_nil))))) (dss_one (ds_ret de_bl)) dss_nil)
    (dss_cons (ds_setLc 7 sc__law_holds.nd (own := [("at", 5), ("to", 8)]) (di_sq (de_lst (da_cons (de_tup (da_cons de_int (da_cons de_int da_nil))) (da_cons (de_tup (da_cons de_int (da_cons de_int da_nil))) (da_cons (de_tup (da_cons de_int (da_cons de_int da_nil))) (da_cons (de_tup (da_cons de_int (da_cons de_int da_nil))) da_nil)))))) (blkOk_by (N := N__law_holds) (sc := defScope s__law_holds) (by decide +kernel)) (ct_tup (ct_cons (ct_name 5) (ct_cons (ct_name 8) ct_nil)))
      (fun _ _ _ _ _ => (pg_TL (n := 2) rfl (pgs_cons (pg_name (i := 5) sc__law_holds.nd rfl (.inl rfl)) (pgs_cons (pg_name (i := 8) sc__law_holds.nd rfl (.inl rfl)) pgs_nil)))) (fun _ _ _ _ _ => dts_nil) (fun _ _ _ _ _ => (de_ix (de_var 2) (de_call G__law_number (hr.mono (by decide)) tk0 (da_cons (de_var 0) (da_cons (de_call G__law_laid (hr.mono (by decide)) tk0 (da_cons (de_var 1) (da_cons (de_var 3) (da_cons (de_ix (de_var 4) (de_var 5)) (da_cons (de_ix (de_var 4) (de_var 8)) da_nil))))) da_nil))))))
    (dss_one (ds_ret (de_and (de_cmp (or_eq hr.r.units) (de_ix (de_var 7) de_int) (de_ix (de_var 7) de_int)) (de_one (de_cmp (or_ne hr.r.units) (de_ix (de_var 7) de_int) (de_ix (de_var 7) de_int)))))))))), ?_⟩)
  · obtain ⟨_, _, _, _, _, _, _, _, _, rfl, _⟩ := h
    rfl
  · obtain ⟨m, n, e, ks, lot, u, v, b, b', rfl, he, B, lk, hu, hv, hb, hb', lex, ful, ⟨i1, i2⟩, qq⟩ := h
    have m2 := B.m2
    have m8 := B.m8
    have n4 := B.n4
    have sm := B.sm
    have ll := lot_len lk
    have au := (AL_is lk).mp hu
    have av := (AL_is lk).mp hv
    have ab := (AL_is (rest_ok n lot)).mp hb
    have ab' := (AL_is (rest_ok n lot)).mp hb'
    have ent : ∀ {r : List Int} {k : Nat}, r.length = k → (∀ p, p < k → 0 ≤ r.getD p 0 ∧ r.getD p 0 < m) → ∀ x ∈ r, 0 ≤ x ∧ x < (m : Int) := fun {r k} hl h x hx => by
      obtain ⟨p, hp, rfl⟩ := List.getElem_of_mem hx
      have := h p (by omega)
      rw [List.getD_eq_getElem?_getD, List.getElem?_eq_getElem hp] at this
      exact this
    have Smm : Sm (m : Int) := ⟨by omega, by omega⟩
    obtain ⟨vals, ev0⟩ : ∃ vals : List Int, vals = [lmV (nsR m n) ks lot u b, lmV (nsR m n) ks lot v b, lmV (nsR m n) ks lot u b', lmV (nsR m n) ks lot v b'] := ⟨_, rfl⟩
    walk_at "w"
    refine ⟨.tup, rfl, trivial, ?_⟩
    walk_at "w"
    refine .inl ⟨_, .tup, ?_⟩
    walk_at "w"
    refine ⟨_, .tup, fun j s M' => Les M M' ∧ ∃ x5 x6 x7 x8, s = [some (.int m), some (.int n), some e, some (.tup (natD lot)), some (.tup [tpD u, tpD v, tpD b, tpD b']), x5, x6, x7, x8], .of ⟨.refl _, _, _, _, _, rfl⟩, fun _ _ _ _ _ => .tup, ?_, ?_⟩
    · rintro j x s M1 hx ⟨L1, x5, x6, x7, x8, rfl⟩
      obtain ⟨d', h3, rfl⟩ := en_at hx
      refine ⟨rfl, ?_⟩
      match j, h3 with
      | 0, h3 =>
        cases h3
        walk_at "w"
        refine .inl ⟨_, .tup, ?_⟩
        rw [List.length_map]
        refine ⟨m, _, u, rfl, au.1, ent au.1 au.2, by omega, fun M2 L2 => ?_⟩
        exact .of ⟨L1.trans L2, _, _, _, _, rfl⟩
      | 1, h3 =>
        cases h3
        walk_at "w"
        refine .inl ⟨_, .tup, ?_⟩
        rw [List.length_map]
        refine ⟨m, _, v, rfl, av.1, ent av.1 av.2, by omega, fun M2 L2 => ?_⟩
        exact .of ⟨L1.trans L2, _, _, _, _, rfl⟩
      | 2, h3 =>
        cases h3
        walk_at "w"
        refine .inl ⟨_, .tup, ?_⟩
        rw [List.length_map]
        walk_at "w"
        rw [show ((n : Int) - ((lot.length : Nat) : Int)) = (((restL n lot).length : Nat) : Int) by omega]
        refine ⟨m, _, b, rfl, ab.1, ent ab.1 ab.2, by omega, fun M2 L2 => ?_⟩
        exact .of ⟨L1.trans L2, _, _, _, _, rfl⟩
      | 3, h3 =>
        cases h3
        walk_at "w"
        refine .inl ⟨_, .tup, ?_⟩
        rw [List.length_map]
        walk_at "w"
        rw [show ((n : Int) - ((lot.length : Nat) : Int)) = (((restL n lot).length : Nat) : Int) by omega]
        refine ⟨m, _, b', rfl, ab'.1, ent ab'.1 ab'.2, by omega, fun M2 L2 => ?_⟩
        exact .of ⟨L1.trans L2, _, _, _, _, rfl⟩
      | j + 4, h3 => cases h3
    · rintro s M1 ⟨L1, x5, x6, x7, x8, rfl⟩
      have g : ∀ {k : Nat} {x : List Int}, [u, v, b, b'][k]? = some x → atI [tpD u, tpD v, tpD b, tpD b'] ((k : Nat) : Int) = some (tpD x) := fun {k x} h => atI_nat (show ([u, v, b, b'].map tpD)[k]? = _ by rw [List.getElem?_map, h]; rfl)
      have g0 := g (k := 0) rfl
      have g1 := g (k := 1) rfl
      walk_at "w"
      refine .inl ⟨_, _, _, .tup, rfl, g0, ?_⟩
      refine .inl ⟨_, _, _, .tup, rfl, g1, ?_⟩
      refine ⟨u, v, rfl, rfl, ?_⟩
      rw [lex]
      walk_at "w"
      refine .inl ⟨_, .tup, ?_⟩
      rw [List.length_map]
      refine ⟨_, rfl, ⟨by omega, by omega⟩, ?_⟩
      refine ⟨fun j acc M' => M' = M1 ∧ acc = [], ⟨_, .refl _, rfl, rfl⟩, fun _ _ _ _ _ => trivial, ?_, ?_⟩
      · rintro j x acc M' hx ⟨rfl, rfl⟩
        obtain ⟨hj, rfl⟩ := rg_at hx
        have gu : u[j]? = some (u.getD j 0) := get_some (by omega)
        have gv : v[j]? = some (v.getD j 0) := get_some (by omega)
        walk_at "w"
        refine .inl ⟨_, _, _, .tup, rfl, g0, ?_⟩
        refine .inl ⟨_, (j : Int), _, .tup, rfl, ints_at gu, ?_⟩
        refine .inl ⟨_, _, _, .tup, rfl, g1, ?_⟩
        refine .inl ⟨_, (j : Int), _, .tup, rfl, ints_at gv, ?_⟩
        refine ifB_f (show decide (u.getD j 0 = v.getD j 0) = false from decide_eq_false (ful j hj)) ?_
        exact ⟨_, .refl _, rfl, rfl⟩
      · rintro acc M' ⟨rfl, rfl⟩ h hh
        have Lh := les_new (o := .lst []) hh
        have fh : upM M' h (.lst []) h = some (.lst (([] : List Int).map D.int)) := upM_same
        have L2 := L1.trans Lh
        generalize upM M' h (.lst []) = M2 at Lh fh L2 ⊢
        walk_at "w"
        refine ⟨Nat.zero_le _, fun p hp => ?_⟩
        have Lp := les_new (o := .lst []) hp
        have fp : upM M2 p (.lst []) p = some (.lst []) := upM_same
        have L3 := L2.trans Lp
        have fh3 := Lp _ _ fh
        generalize upM M2 p (.lst []) = M3 at Lp fp L3 fh3 ⊢
        refine ne_e (l := []) fh3 fp ?_
        refine ifB_f (by simp) ?_
        walk_at "w"
        repeat (refine ⟨(by first | (show 2 ≤ sizeLine; decide) | (show 4 ≤ sizeLine; decide)), ?_⟩; walk_at "w")
        refine fun z hz => ?_
        have Lz := les_new (o := .lst [.tup [.int 0, .int 2], .tup [.int 1, .int 2], .tup [.int 0, .int 3], .tup [.int 1, .int 3]]) hz
        have fz : upM M3 z (.lst [.tup [.int 0, .int 2], .tup [.int 1, .int 2], .tup [.int 0, .int 3], .tup [.int 1, .int 3]]) z = _ := upM_same
        have L4 := L3.trans Lz
        generalize upM M3 z (.lst [.tup [.int 0, .int 2], .tup [.int 1, .int 2], .tup [.int 0, .int 3], .tup [.int 1, .int 3]]) = M4 at Lz fz L4 ⊢
        walk_at "w"
        refine ⟨_, .ref fz, fun j acc M' => Les M4 M' ∧ acc = ((vals.take j).map D.int), ⟨_, .refl _, .refl _, rfl⟩, fun j acc M' _ ⟨l, _⟩ => .ref (l _ _ fz), ?_, ?_⟩
        · rintro j x acc M6 hx ⟨L4x, rfl⟩
          have L4' := L4.trans L4x
          replace L4 := L4x
          match j, hx with
          | 0, hx =>
            cases hx
            obtain ⟨x, hx', xa, xb⟩ := jo lk hu hb
            have lx := (isS_rep.mp hx').1
            obtain ⟨jj, e1, e2⟩ := fv_at B.bd hx'
            have ev := lv (ks := ks) lk hx'
            rw [xa, xb] at ev
            refine ⟨rfl, ?_⟩
            walk_at "w"
            refine .inl ⟨_, _, _, .tup, rfl, g (k := 0) rfl, ?_⟩
            refine .inl ⟨_, _, _, .tup, rfl, g (k := 2) rfl, ?_⟩
            refine ⟨n, tpD u, tpD b, lot, x, rfl, by rw [xa]; exact .tup, by rw [xb]; exact .tup, lx, by omega, lk, fun g' M5 L5 ng fg => ?_⟩
            refine ⟨.ref g', m, x, rfl, .ref fg, Smm, ?_⟩
            rw [numL_eq lx, e1]
            refine .inl ⟨_, (jj : Int), _, he.les (L4'.trans L5), rfl, ints_at e2, ?_⟩
            refine ⟨size_ok (by rw [List.length_map, List.length_take]; omega), _, .refl _, L4.trans L5, ?_⟩
            rw [ev0, ← ev]
            rfl
          | 1, hx =>
            cases hx
            obtain ⟨x, hx', xa, xb⟩ := jo lk hv hb
            have lx := (isS_rep.mp hx').1
            obtain ⟨jj, e1, e2⟩ := fv_at B.bd hx'
            have ev := lv (ks := ks) lk hx'
            rw [xa, xb] at ev
            refine ⟨rfl, ?_⟩
            walk_at "w"
            refine .inl ⟨_, _, _, .tup, rfl, g (k := 1) rfl, ?_⟩
            refine .inl ⟨_, _, _, .tup, rfl, g (k := 2) rfl, ?_⟩
            refine ⟨n, tpD v, tpD b, lot, x, rfl, by rw [xa]; exact .tup, by rw [xb]; exact .tup, lx, by omega, lk, fun g' M5 L5 ng fg => ?_⟩
            refine ⟨.ref g', m, x, rfl, .ref fg, Smm, ?_⟩
            rw [numL_eq lx, e1]
            refine .inl ⟨_, (jj : Int), _, he.les (L4'.trans L5), rfl, ints_at e2, ?_⟩
            refine ⟨size_ok (by rw [List.length_map, List.length_take]; omega), _, .refl _, L4.trans L5, ?_⟩
            rw [ev0, ← ev]
            rfl
          | 2, hx =>
            cases hx
            obtain ⟨x, hx', xa, xb⟩ := jo lk hu hb'
            have lx := (isS_rep.mp hx').1
            obtain ⟨jj, e1, e2⟩ := fv_at B.bd hx'
            have ev := lv (ks := ks) lk hx'
            rw [xa, xb] at ev
            refine ⟨rfl, ?_⟩
            walk_at "w"
            refine .inl ⟨_, _, _, .tup, rfl, g (k := 0) rfl, ?_⟩
            refine .inl ⟨_, _, _, .tup, rfl, g (k := 3) rfl, ?_⟩
            refine ⟨n, tpD u, tpD b', lot, x, rfl, by rw [xa]; exact .tup, by rw [xb]; exact .tup, lx, by omega, lk, fun g' M5 L5 ng fg => ?_⟩
            refine ⟨.ref g', m, x, rfl, .ref fg, Smm, ?_⟩
            rw [numL_eq lx, e1]
            refine .inl ⟨_, (jj : Int), _, he.les (L4'.trans L5), rfl, ints_at e2, ?_⟩
            refine ⟨size_ok (by rw [List.length_map, List.length_take]; omega), _, .refl _, L4.trans L5, ?_⟩
            rw [ev0, ← ev]
            rfl
          | 3, hx =>
            cases hx
            obtain ⟨x, hx', xa, xb⟩ := jo lk hv hb'
            have lx := (isS_rep.mp hx').1
            obtain ⟨jj, e1, e2⟩ := fv_at B.bd hx'
            have ev := lv (ks := ks) lk hx'
            rw [xa, xb] at ev
            refine ⟨rfl, ?_⟩
            walk_at "w"
            refine .inl ⟨_, _, _, .tup, rfl, g (k := 1) rfl, ?_⟩
            refine .inl ⟨_, _, _, .tup, rfl, g (k := 3) rfl, ?_⟩
            refine ⟨n, tpD v, tpD b', lot, x, rfl, by rw [xa]; exact .tup, by rw [xb]; exact .tup, lx, by omega, lk, fun g' M5 L5 ng fg => ?_⟩
            refine ⟨.ref g', m, x, rfl, .ref fg, Smm, ?_⟩
            rw [numL_eq lx, e1]
            refine .inl ⟨_, (jj : Int), _, he.les (L4'.trans L5), rfl, ints_at e2, ?_⟩
            refine ⟨size_ok (by rw [List.length_map, List.length_take]; omega), _, .refl _, L4.trans L5, ?_⟩
            rw [ev0, ← ev]
            rfl
          | j + 4, hx => cases hx
        · rintro acc M6 ⟨L6, rfl⟩ y hy
          have L7 := (L4.trans L6).trans (les_new (o := .lst ((vals.take 4).map D.int)) hy)
          have fy : upM M6 y (.lst ((vals.take 4).map D.int)) y = some (.lst (vals.map D.int)) := by rw [ev0]; exact upM_same
          have w0 : atI (vals.map D.int) ((0 : Nat) : Int) = some (.int (lmV (nsR m n) ks lot u b)) := ints_at (by rw [ev0]; rfl)
          have w1 : atI (vals.map D.int) ((1 : Nat) : Int) = some (.int (lmV (nsR m n) ks lot v b)) := ints_at (by rw [ev0]; rfl)
          have w2 : atI (vals.map D.int) ((2 : Nat) : Int) = some (.int (lmV (nsR m n) ks lot u b')) := ints_at (by rw [ev0]; rfl)
          have w3 : atI (vals.map D.int) ((3 : Nat) : Int) = some (.int (lmV (nsR m n) ks lot v b')) := ints_at (by rw [ev0]; rfl)
          have q := qq _ L7
          show _
          generalize upM M6 y (.lst ((vals.take 4).map D.int)) = M7 at L7 fy q
          walk_at "w"
          refine .inl ⟨_, _, _, .ref fy, rfl, w0, ?_⟩
          refine .inl ⟨_, _, _, .ref fy, rfl, w1, ?_⟩
          refine ⟨_, rfl, ?_⟩
          rw [decide_eq_true i1]
          refine .inl ⟨_, _, _, .ref fy, rfl, w2, ?_⟩
          refine .inl ⟨_, _, _, .ref fy, rfl, w3, ?_⟩
          walk_at "w"
          rw [decide_eq_false i2]
          exact Lk.of q
end
end K83
set_option linter.all false
namespace K83
open PySem PySem.Spec PyProof.Rows L2 DL
theorem lex_snoc : ∀ {r r' : List Int} {c c' : Int}, r.length = r'.length → (HT.lexLt r r' = true ∨ r = r' ∧ c < c') → HT.lexLt (r ++ [c]) (r' ++ [c']) = true
  | [], [], c, c', _, h => by
    rcases h with h | ⟨_, h⟩
    · cases h
    · show (if c = c' then HT.lexLt [] [] else decide (c < c')) = true
      rw [if_neg (by omega)]
      exact decide_eq_true h
  | [], y :: ys, _, _, l, _ => by cases l
  | x :: xs, [], _, _, l, _ => by cases l
  | x :: xs, y :: ys, c, c', l, h => by
    have l' : xs.length = ys.length := Nat.succ.inj l
    show (if x = y then HT.lexLt (xs ++ [c]) (ys ++ [c']) else decide (x < y)) = true
    rcases h with h | ⟨h, hc⟩
    · have h : (if x = y then HT.lexLt xs ys else decide (x < y)) = true := h
      by_cases e : x = y
      · rw [if_pos e] at h ⊢
        exact lex_snoc l' (.inl h)
      · rw [if_neg e] at h ⊢
        exact h
    · have e := List.cons.inj h
      rw [if_pos e.1]
      exact lex_snoc l' (.inr ⟨e.2, hc⟩)
theorem set_lex (ns : List Int) : (setS ns).Pairwise fun x y => HT.lexLt x y = true := by
  refine rev_ind (P := fun ns => (setS ns).Pairwise fun x y => HT.lexLt x y = true) ?_ (fun l n ih => ?_) ns
  · exact List.pairwise_singleton ..
  · show (setS (l ++ [n])).Pairwise _
    rw [setS_app]
    unfold setR
    refine List.pairwise_flatMap.mpr ⟨fun r _ => ?_, ih.imp_of_mem fun {r r'} hr hr' h x hx y hy => ?_⟩
    · refine List.pairwise_map.mpr (List.pairwise_lt_range.imp fun {a b} h => lex_snoc rfl (.inr ⟨rfl, by omega⟩))
    · obtain ⟨a, _, rfl⟩ := List.mem_map.mp hx
      obtain ⟨b, _, rfl⟩ := List.mem_map.mp hy
      exact lex_snoc ((set_len _ r hr).trans (set_len _ r' hr').symm) (.inl h)
theorem set_lt {ns : List Int} {i j : Nat} {u v : List Int} (h : i < j) (hu : (setS ns)[i]? = some u) (hv : (setS ns)[j]? = some v) : HT.lexLt u v = true := by
  obtain ⟨a, rfl⟩ := List.getElem?_eq_some_iff.mp hu
  obtain ⟨b, rfl⟩ := List.getElem?_eq_some_iff.mp hv
  exact List.pairwise_iff_getElem.mp (set_lex ns) i j a b h
section
variable {m n : Nat} {ks : List Int} {lot : List Nat}
theorem row_get {a b : List Int} {x : Nat} (h : (AL m n (restL n lot))[x]? = some b) : x < (rowL m n ks lot a).length ∧ (rowL m n ks lot a).getD x 0 = lmV (nsR m n) ks lot a b := by
  have hx := (List.getElem?_eq_some_iff.mp h).1
  refine ⟨by unfold rowL; rw [List.length_map]; exact hx, ?_⟩
  unfold rowL
  rw [List.getD_eq_getElem?_getD, List.getElem?_map, h]
  rfl
theorem row_len (a : List Int) : (rowL m n ks lot a).length = (AL m n (restL n lot)).length := by unfold rowL; rw [List.length_map]
theorem full_dif {u v : List Int} (lu : u.length = lot.length) : (difL u v).length = lot.length ↔ Full lot u v := by
  rw [← lu, dif_all, lu]
  exact Iff.rfl
theorem gives_some {u v b b' : List Int} {x y : Nat} (lu : u.length = lot.length) (h : gives m n ks lot u v = some (x, y)) (hb : (AL m n (restL n lot))[x]? = some b) (hb' : (AL m n (restL n lot))[y]? = some b') : Full lot u v ∧ IsNo m n ks lot u v b b' := by
  unfold gives at h
  split at h
  · rename_i q
    obtain ⟨⟨_, e1⟩, _, e2⟩ := fch_some h
    rw [(row_get hb).2, (row_get hb).2] at e1
    rw [(row_get hb').2, (row_get hb').2] at e2
    exact ⟨(full_dif lu).mp q, e1, e2⟩
  · cases h
theorem gives_none {u v b b' : List Int} (lu : u.length = lot.length) (h : gives m n ks lot u v = none) (fu : Full lot u v) (hb : b ∈ AL m n (restL n lot)) (hb' : b' ∈ AL m n (restL n lot)) (no : IsNo m n ks lot u v b b') : False := by
  unfold gives at h
  rw [if_pos ((full_dif lu).mpr fu)] at h
  obtain ⟨x, hx⟩ := List.getElem?_of_mem hb
  obtain ⟨y, hy⟩ := List.getElem?_of_mem hb'
  refine fch_none h (row_get hx).1 ?_ (row_get hy).1 ?_
  · rw [(row_get hx).2, (row_get hx).2]; exact no.1
  · rw [(row_get hy).2, (row_get hy).2]; exact no.2
theorem nor_same {r : D} (lk : LotOk n lot) (h : NoR m n ks lot r) (S : Same (AL m n lot) (AL m n (restL n lot)) (lmV (nsR m n) ks lot)) : r = .non := by
  rcases h with ⟨h, _⟩ | ⟨i, j, u, v, b, b', x, y, hu, hv, _, hg, hx, hy, _⟩
  · exact h
  · exfalso
    have mu := List.mem_of_getElem? hu
    have mv := List.mem_of_getElem? hv
    obtain ⟨_, e1, e2⟩ := gives_some ((AL_is lk).mp mu).1 hg hx hy
    exact e2 ((nums_pat (S b (List.mem_of_getElem? hx) b' (List.mem_of_getElem? hy)) u mu v mv).mp e1)
theorem nor_not {r : D} (F : Fb m n ks) (lk : LotOk n lot) (h : NoR m n ks lot r) (S : ¬ Same (AL m n lot) (AL m n (restL n lot)) (lmV (nsR m n) ks lot)) :
    ∃ u v b b', u ∈ AL m n lot ∧ v ∈ AL m n lot ∧ b ∈ AL m n (restL n lot) ∧ b' ∈ AL m n (restL n lot) ∧ HT.lexLt u v = true ∧ Full lot u v ∧ IsNo m n ks lot u v b b' ∧ r = .tup [tpD u, tpD v, tpD b, tpD b'] := by
  rcases h with ⟨_, h⟩ | ⟨i, j, u, v, b, b', x, y, hu, hv, hij, hg, hx, hy, e⟩
  · exfalso
    obtain ⟨u, hu, v, hv, b, hb, b', hb', fu, no⟩ := no_full F lk S
    obtain ⟨i, hi⟩ := List.getElem?_of_mem hu
    obtain ⟨j, hj⟩ := List.getElem?_of_mem hv
    have ne : i ≠ j := fun e => by
      rw [e, hj] at hi
      cases hi
      exact no.2 rfl
    by_cases q : i < j
    · exact gives_none ((AL_is lk).mp hu).1 (h i j u v hi hj q) fu hb hb' no
    · exact gives_none ((AL_is lk).mp hv).1 (h j i v u hj hi (by omega)) (fun p hp e => fu p hp e.symm) hb hb' ⟨no.1.symm, fun e => no.2 e.symm⟩
  · have mu := List.mem_of_getElem? hu
    obtain ⟨fu, no⟩ := gives_some ((AL_is lk).mp mu).1 hg hx hy
    exact ⟨u, v, b, b', mu, List.mem_of_getElem? hv, List.mem_of_getElem? hx, List.mem_of_getElem? hy, set_lt hij hu hv, fu, no, e⟩
theorem test_iff : testB m n ks lot = true ↔ Same (AL m n lot) (AL m n (restL n lot)) (lmV (nsR m n) ks lot) := test_same
end
end K83
set_option linter.all false
namespace K83
open PySem PySem.Spec PyProof.Rows L2 DL
theorem shaped_bl (b : Bool) : SeqAt.shaped (.bool b) = true := by cases b <;> decide +kernel
theorem eqv_bl (x y : Bool) : PyData.eqv (.bool x) (.bool y) = decide (x = y) := by
  rw [PyData.eqv]
  cases x <;> cases y <;> rfl
theorem ne_bl {M : DHp} {x y : Bool} {Q : Bool → DHp → Prop} (h : x = y) (q : Q false M) : neD (.bl x) (.bl y) M Q :=
  ⟨_, _, .bl x, .bl y, shaped_bl x, shaped_bl y, by rw [if_pos rfl, eqv_bl, decide_eq_true h]; exact q⟩
theorem ld_two {n : Nat} {lot : List Nat} (asc : lot.Pairwise (· < ·)) (lt : ∀ i ∈ lot, i < n) (ne : lot ≠ []) : ldD (n : Nat) (some (natD lot ++ natD lot)) = .int (lot.length : Nat) := by
  have l0 : 0 < lot.length := List.length_pos_iff.mpr ne
  have ll : (natD lot).length = lot.length := by unfold natD; rw [List.length_map]
  have g1 : ∀ i, i < lot.length → (natD lot ++ natD lot).getD i .non = (natD lot).getD i .non := fun i hi => by
    rw [List.getD_eq_getElem?_getD, List.getElem?_append_left (by omega), ← List.getD_eq_getElem?_getD]
  have ok := ld_good asc lt ne
  have nb : firstN (badL (n : Nat) (natD lot)) (natD lot).length = none := by
    have ok : (if (natD lot).length = 0 then D.int (-1) else plD (firstN (badL (n : Nat) (natD lot)) (natD lot).length)) = .non := ok
    rw [if_neg (by omega)] at ok
    cases hf : firstN (badL (n : Nat) (natD lot)) (natD lot).length with
    | none => rfl
    | some i => rw [hf] at ok; cases ok
  refine ld_bad (by rw [List.length_append]; omega) (fun i hi => ?_) ?_
  · have := firstN_none nb i (by omega)
    unfold badL leastL at this ⊢
    rw [g1 i hi]
    by_cases e : i = 0
    · rw [if_pos e] at this ⊢; exact this
    · rw [if_neg e] at this ⊢
      rw [g1 (i - 1) (by omega)]
      exact this
  · unfold badL leastL
    rw [if_neg (by omega), g1 (lot.length - 1) (by omega), nat_get (by omega)]
    have e : (natD lot ++ natD lot).getD lot.length .non = .int (lot[0] : Nat) := by
      rw [List.getD_eq_getElem?_getD, List.getElem?_append_right (by omega), ll, Nat.sub_self, ← List.getD_eq_getElem?_getD]
      exact nat_get l0
    rw [e]
    have le : lot[0] ≤ lot[lot.length - 1] := by
      by_cases z : lot.length - 1 = 0
      · simp only [z]; omega
      · have := List.pairwise_iff_getElem.mp asc 0 (lot.length - 1) (by omega) (by omega) (by omega)
        omega
    show (_ || decide (((lot[0] : Nat) : Int) < ((lot[lot.length - 1] : Nat) : Int) + 1)) = true
    rw [decide_eq_true (by omega), Bool.or_true]
theorem wrL_of3 {K : PySem.W.Frag} {n : Nat} {lot : List Nat} {v : D} (asc : lot.Pairwise (· < ·)) (lt : ∀ i ∈ lot, i < n) (ne : lot ≠ []) (l4 : lot.length ≤ 4)
    (hv : v ∈ [D.tup [.tup [], .str (Str.ofString "-1")], .tup [.tup [.int n], .str (Str.ofString "0")], .tup [.tup (natD lot ++ natD lot), .str (PyData.int (lot.length : Nat)).shown], .tup [.tup [.bl true], .str (Str.ofString "0")], .tup [.non, .str (Str.ofString "-1")]]) : WrL K n v := by
  simp only [List.mem_cons, List.not_mem_nil, or_false] at hv
  rcases hv with rfl | rfl | rfl | rfl | rfl
  · exact ⟨.tup [], some [], -1, by rw [shm], fun N => ⟨.tup, fun x hx => absurd hx List.not_mem_nil⟩, ld_nil, by omega, by omega⟩
  · refine ⟨.tup [.int n], some [.int n], ((0 : Nat) : Int), by rw [← sh0]; rfl, fun N => ⟨.tup, fun x hx => by rw [List.mem_singleton.mp hx]; exact ⟨.int, rfl, trivial⟩⟩, ld_oneD ?_, by omega, by omega⟩
    show (decide (0 ≤ (n : Int)) && decide ((n : Int) < n)) = false
    rw [decide_eq_false (p := (n : Int) < n) (by omega), Bool.and_false]
  · refine ⟨.tup (natD lot ++ natD lot), some (natD lot ++ natD lot), (lot.length : Nat), rfl, fun N => ⟨.tup, fun x hx => ?_⟩, ld_two asc lt ne, by omega, by omega⟩
    rcases List.mem_append.mp hx with z | z
    · obtain ⟨i, _, rfl⟩ := List.mem_map.mp z
      exact ⟨.int, rfl, trivial⟩
    · obtain ⟨i, _, rfl⟩ := List.mem_map.mp z
      exact ⟨.int, rfl, trivial⟩
  · exact ⟨.tup [.bl true], some [.bl true], ((0 : Nat) : Int), by rw [← sh0]; rfl, fun N => ⟨.tup, fun x hx => by rw [List.mem_singleton.mp hx]; exact ⟨.bl, rfl, trivial⟩⟩, ld_oneD rfl, by omega, by omega⟩
  · exact ⟨.non, none, -1, by rw [shm], fun N => ⟨.non, rfl, trivial, rfl⟩, rfl, by omega, by omega⟩
end K83
set_option linter.all false
namespace K83
open PySem PySem.Spec PyProof.Rows L2 DL
open LamX (TabB CodeO)
local macro_rules | `(tactic| walk_at "w") => `(tactic| conv => whnf)
theorem cut_6 {xs : List D} : DL.cutD xs none (some 6) = xs.take 6 := cut_to (i := 6)
abbrev sl3 (a p e b : Addr) (m n : Nat) (x6 x7 x8 x9 x10 : Option D) : DSt := [some (.ref a), some (.ref p), some (.int m), some (.int n), some (.ref e), some (.ref b), x6, x7, x8, x9, x10]
theorem cut_1 {xs : List D} : DL.cutD xs none (some 1) = xs.take 1 := cut_to (i := 1)
theorem cut_2 {xs : List D} : DL.cutD xs none (some 2) = xs.take 2 := cut_to (i := 2)
theorem seq_assoc (A B C : DTS) : sSeq (sSeq A B) C = sSeq A (sSeq B C) := rfl
section
variable {P₀ : Program} {w : World} {K : PySem.W.Frag} {mg : Str → Option Value} {base : Heap} {C_Board C_BoardError C_InvalidBoard C_InvalidSetting C_InvalidSize C_InvalidLot C_Refused : Addr}
abbrev s_law : Stmt := top 66
abbrev N_law : List Str := ["script", "deal", "many", "size", "marks", "board", "lot", "no", "is_tested", "wrong", "at"]
abbrev P_law : List Str := ["script"]
theorem sc_law : FnScope N_law P_law (defScope s_law) := ⟨rfl, rfl, rfl, by decide +kernel, rfl, by decide +kernel, by decide +kernel⟩
def sp_law (Pt : Addr) : DSp := fun ds M Q _ => ∃ (a : Addr) (ns : List Int), ds = [.ref a] ∧ M a = some (.frz (ns.map D.int)) ∧ ns.length ≤ 100 ∧ TabsM [(Pt, qLaw)] M ∧ ∀ M', Q (.bl true) M'
set_option maxHeartbeats 8000000 in
theorem ok_law {f c Pt : Addr} {fd : FuncData} (F : FunC K "law" "law" s_law f fd c) (TBx : TabB base mg c Pt) (Z : Zs mg) (T : Bo P₀ w K mg base C_Board C_BoardError C_InvalidBoard C_InvalidSetting C_InvalidSize) (Tr : Tr P₀ w K mg base C_Refused) (Tl : Tl P₀ w K mg base C_Board C_BoardError C_InvalidLot)
    (G__law_deal : Cal P₀ w K mg base "_law_deal" 1 sp_deal) (G__law_draw : Cal P₀ w K mg base "_law_draw" 1 sp_draw) (G__law_pick : Cal P₀ w K mg base "_law_pick" 2 sp_lpick) (G__law_mixed : Cal P₀ w K mg base "_law_mixed" 2 sp_mixed) (G__law_board : Cal P₀ w K mg base "_law_board" 5 sp_board)
    (G__law_spoilt : Cal P₀ w K mg base "_law_spoilt" 7 (sp_lspoil C_Board)) (G__law_lots : Cal P₀ w K mg base "_law_lots" 1 sp_llots) (G__law_same : Cal P₀ w K mg base "_law_same" 3 sp_lsame) (G__law_holds : Cal P₀ w K mg base "_law_holds" 2 sp_lholds) (G__law_is_tested : Cal P₀ w K mg base "_law_is_tested" 2 sp_ltst)
    (G_full_no : Cal P₀ w K mg base "full_no" 7 (sp_fno K C_Board C_InvalidLot C_Refused)) (Gk_full_no : CalW P₀ w K mg base "full_no" ["board", "lot"] (fun us ws => us ++ ws) 7 (sp_fno K C_Board C_InvalidLot C_Refused))
    (CT__law_is_refused : CalT P₀ w K mg base "_law_is_refused" LK (TT_ex K C_Refused N__law_is_refused ts_ref)) (CT__law_wrong : CalT P₀ w K mg base "_law_wrong" LK (TT_wr K C_InvalidLot N__law_wrong)) : FnD P₀ w K mg base 10 f fd P_law (sp_law Pt) := by
  have hmT : (Pt, qLaw) ∈ [(Pt, qLaw)] := List.mem_singleton.mpr rfl
  have huT : ∀ p ∈ [(Pt, qLaw)], p.1 = Pt → p.2 = qLaw := fun p hp _ => by rw [List.mem_singleton.mp hp]
  refine fn_DC F sc_law (fun ds M P PE h => ?_) (fun A outer s H E ds M P PE hr tk h => ⟨_, (dss_cons (ds_set 1 sc_law.nd (de_call G__law_deal (hr.mono (by decide)) tk (da_cons (de_var 0) (da_cons de_int da_nil))))
    (dss_cons (ds_asg (de_call G__law_board (hr.mono (by decide)) tk (da_cons (de_var 1) da_nil)) (dg_tup (n := 3) rfl (dgs_cons (dg_name 2 sc_law.nd) (dgs_cons (dg_name 3 sc_law.nd) (dgs_cons (dg_name 4 sc_law.nd) dgs_nil)))))
    (dss_cons (ds_set 5 sc_law.nd (de_make T.k_Board (hr.mono (by decide)) tk (da_cons (de_var 2) (da_cons (de_op or_mul (de_lst (da_cons (de_var 2) da_nil)) (de_var 3)) (da_cons (de_var 4) da_nil)))))
    (dss_cons (ds_for (passes_of rfl) (di_sq (de_sl (de_call G__law_mixed (hr.mono (by decide)) tk (da_cons (de_var 1) (da_cons (de_call G__law_lots (hr.mono (by decide)) tk (da_cons (de_var 3) da_nil)) da_nil))) dpo_none (dpo_some de_int))) (dg_name 6 sc_law.nd) (dss_cons (ds_par2 7 8 sc_law.nd (da_cons (de_call G_full_no (hr.mono (by decide)) tk (da_cons (de_var 5) (da_cons (de_var 6) da_nil))) (da_cons (de_call G__law_is_tested (hr.mono (by decide)) tk (da_cons (de_var 2) (da_cons (de_var 3) (da_cons (de_var 4) (da_cons (de_var 6) da_nil))))) da_nil)))
    (dss_one (ds_if (dt_tru (de_var 8)) (dss_one (ds_if (DW.dt (dw_or (dt_cmp or_isn (de_var 7) de_non) (dw_or1 (dt_not (dt_tru (de_call G__law_same (hr.mono (by decide)) tk (da_cons (de_var 2) (da_cons (de_var 3) (da_cons (de_var 4) (da_cons (de_var 6) (da_cons (de_var 1) da_nil))))))))))) (dss_one (ds_ret de_bl)) dss_nil)) (dss_one (ds_if (dt_not (dt_tru (de_call G__law_holds (hr.mono (by decide)) tk (da_cons (de_var 2) (da_cons (de_var 3) (da_cons (de_var 4) (da_cons (de_var 6) (da_cons (de_var 7) da_nil)))))))) (dss_one (ds_ret de_bl)) dss_nil))))))
    (dss_cons (ds_set 6 sc_law.nd (de_call G__law_pick (hr.mono (by decide)) tk (da_cons (de_var 1) (da_cons (de_call G__law_lots (hr.mono (by decide)) tk (da_cons (de_var 3) da_nil)) da_nil))))
    (dss_cons (ds_if (dt_cmp (or_ne hr.r.units) (de_cmp or_is (de_callk Gk_full_no (hr.mono (by decide)) tk (dk_cons (de_var 5) (dk_cons (de_fnT cr_lst Z.lst (da_cons (de_var 6) da_nil)) dk_nil))) de_non) (de_call G__law_is_tested (hr.mono (by decide)) tk (da_cons (de_var 2) (da_cons (de_var 3) (da_cons (de_var 4) (da_cons (de_var 6) da_nil)))))) (dss_one (ds_ret de_bl)) dss_nil)
    (dss_cons (ds_asg (de_call G__law_pick (hr.mono (by decide)) tk (da_cons (de_var 1) (da_cons (de_lst (da_cons (de_tup (da_cons (de_tup da_nil) (da_cons de_str da_nil))) (da_cons (de_tup (da_cons (de_tup (da_cons (de_var 3) da_nil)) (da_cons de_str da_nil))) (da_cons (de_tup (da_cons (de_op or_add (de_var 6) (de_var 6)) (da_cons (de_fnB (cr_rpr hr.g (by have := room70 hr; exact this)) Z.repr (da_cons (de_fnB cr_len Z.len (da_cons (de_var 6) da_nil)) da_nil)) da_nil))) (da_cons (de_tup (da_cons (de_tup (da_cons de_bl da_nil)) (da_cons de_str da_nil))) (da_cons (de_tup (da_cons de_non (da_cons de_str da_nil))) da_nil)))))) da_nil))) (dg_tup (n := 2) rfl (dgs_cons (dg_name 9 sc_law.nd) (dgs_cons (dg_name 10 sc_law.nd) dgs_nil))))
    (dss_cons (ds_if (dt_cmp (or_ne hr.r.units) (de_lamcall (k := LK) (L := LamX.lamS_by (sc := defScope s_law) (by decide +kernel)) CT__law_wrong (hr.mono (by decide)) tk TBx hmT huT
      (fun A outer s H E f c' WD B' hr tkl => (de_call G_full_no (hr.mono (by decide)) tkl (da_cons (de_var 5) (da_cons (de_var 9) da_nil))))) (de_var 10)) (dss_one (ds_ret de_bl)) dss_nil)
    (dss_one (ds_ret (de_lamcall (k := LK) (L := LamX.lamS_by (sc := defScope s_law) (by decide +kernel)) CT__law_is_refused (hr.mono (by decide)) tk TBx hmT huT
      (fun A outer s H E f c' WD B' hr tkl => (de_call G_full_no (hr.mono (by decide)) tkl (da_cons (de_call G__law_spoilt (hr.mono (by decide)) tkl (da_cons (de_var 1) (da_cons (de_var 2) (da_cons (de_var 3) (da_cons (de_var 4) da_nil))))) (da_cons (de_var 9) da_nil))))))))))))))), ?_⟩)
  · obtain ⟨_, _, rfl, _⟩ := h
    rfl
  · obtain ⟨a, ns, rfl, ha, hl, hT, qq⟩ := h
    walk_at "w"
    refine ⟨a, 0, ns, rfl, ha, by decide, hl, fun p q M1 L1 R1 => ?_⟩
    walk_at "w"
    refine ⟨p, q, M, rfl, R1, fun m n e f N M2 L2 ne fe gf m2 m8 n1 n4 sm sb R2 => ?_⟩
    have fb := fb_of gf m2 m8 n1 n4 sm sb
    replace hT := hT.les L2
    generalize (setS (List.replicate n (m : Int))).map f = ks at fe fb
    clear gf sb L2 ne R1 L1 ha
    have fa := fb.fa
    have kl := fa.k.len
    walk_at "w"
    refine ⟨rfl, ?_⟩
    walk_at "w"
    refine ⟨(by show 1 ≤ sizeLine; decide), fun g hg => ?_⟩
    have R4 := R2.new (o := .lst [.int m]) hg
    have L4 := R2.newl (o := .lst [.int m]) hg
    have f4 : upM N g (.lst [.int m]) g = some (.lst [.int m]) := upM_same
    have fe4 := L4 _ _ fe
    replace hT := hT.les L4
    generalize upM N g (.lst [.int m]) = N4 at R4 L4 f4 fe4 hT
    generalize upM M2 g (.lst [.int m]) = M4 at R4 ⊢
    walk_at "w"
    refine ⟨_, R4.l _ _ f4, ⟨by omega, by omega, ?_⟩, fun h hh => ?_⟩
    · show 1 * _ ≤ sizeLine
      exact Nat.le_of_lt (size_ok (by omega))
    rw [fl_rep n (m : Int)]
    have R5 := R4.new (o := .lst ((List.replicate n (m : Int)).map D.int)) hh
    have L5 := R4.newl (o := .lst ((List.replicate n (m : Int)).map D.int)) hh
    have f5 : upM N4 h (.lst ((List.replicate n (m : Int)).map D.int)) h = some (.lst ((List.replicate n (m : Int)).map D.int)) := upM_same
    have fe5 := L5 _ _ fe4
    replace hT := hT.les L5
    generalize upM N4 h (.lst ((List.replicate n (m : Int)).map D.int)) = N5 at R5 L5 f5 fe5 hT
    generalize upM M4 h (.lst ((List.replicate n (m : Int)).map D.int)) = M5 at R5 ⊢
    clear fe4 f4 R4 R2 fe L4 L5
    walk_at "w"
    intro b hb
    have R6 := R5.new (o := .ins C_Board []) hb
    have L6 := R5.newl (o := .ins C_Board []) hb
    have f6 : upM N5 b (.ins C_Board []) b = some (.ins C_Board []) := upM_same
    have n5 := (R5.nep hb).2.2
    refine init_mk fa.k (R6.l _ _ f6) (.ref (R6.l _ _ (L6 _ _ f5))) (.ref (R6.l _ _ (L6 _ _ fe5))) fun M' eM => ⟨rfl, ?_⟩
    subst eM
    have R7 := R6.put (o := .ins C_Board [("many", .int m), ("sizes", .tup ((List.replicate n (m : Int)).map D.int)), ("marks", .tup (ks.map D.int)), ("steps", .tup ((stepsI (List.replicate n (m : Int))).map D.int))]) f6
    rw [upM_two, upM_two] at R7
    rw [upM_two]
    have hbd : BdAt C_Board (upM N5 b (.ins C_Board [("many", .int m), ("sizes", .tup ((List.replicate n (m : Int)).map D.int)), ("marks", .tup (ks.map D.int)), ("steps", .tup ((stepsI (List.replicate n (m : Int))).map D.int))])) b m (List.replicate n (m : Int)) ks := upM_same
    have fe7 : upM N5 b (.ins C_Board [("many", .int m), ("sizes", .tup ((List.replicate n (m : Int)).map D.int)), ("marks", .tup (ks.map D.int)), ("steps", .tup ((stepsI (List.replicate n (m : Int))).map D.int))]) e = some (.lst (ks.map D.int)) := by
      rw [upM_ne (fun z => by rw [z, n5] at fe5; cases fe5)]
      exact fe5
    replace hT := hT.les (les_new (o := .ins C_Board [("many", .int m), ("sizes", .tup ((List.replicate n (m : Int)).map D.int)), ("marks", .tup (ks.map D.int)), ("steps", .tup ((stepsI (List.replicate n (m : Int))).map D.int))]) n5)
    generalize upM N5 b (.ins C_Board [("many", .int m), ("sizes", .tup ((List.replicate n (m : Int)).map D.int)), ("marks", .tup (ks.map D.int)), ("steps", .tup ((stepsI (List.replicate n (m : Int))).map D.int))]) = N7 at R7 hbd fe7 hT
    generalize upM M5 b (.ins C_Board [("many", .int m), ("sizes", .tup ((List.replicate n (m : Int)).map D.int)), ("marks", .tup (ks.map D.int)), ("steps", .tup ((stepsI (List.replicate n (m : Int))).map D.int))]) = M7 at R7 ⊢
    clear R6 L6 f6 n5 fe5 f5 R5
    have S : LwS C_Board Pt N7 e b m n ks := ⟨fa, hbd, fe7, hT⟩
    clear hbd fe7 hT
    walk_at "w"
    refine ⟨n, rfl, by omega, fun lq M12 ls L12 nlq flq lp ll => ?_⟩
    obtain ⟨N12, L12', R12, f12⟩ := R7.newQ L12 nlq flq
    have S12 := S.les L12'
    have p2 : 2 ^ n ≤ 2 ^ 4 := Nat.pow_le_pow_right (by decide) (by omega)
    walk_at "w"
    refine ⟨p, q, .ref lq, _, _, rfl, R12, .ref f12, fun x hx => ?_, by rw [List.length_map]; omega, fun pa ys N14 M14 pm L14 npa fpa R14 => ?_⟩
    · obtain ⟨l, _, rfl⟩ := List.mem_map.mp hx
      rw [natD_int]
      exact pu_tp _
    have good : ∀ y ∈ ys, ∃ l : List Nat, y = .tup (natD l) ∧ l ≠ [] ∧ l.Pairwise (· < ·) ∧ (∀ i ∈ l, i < n) := fun y hy => by
      obtain ⟨l, hl, rfl⟩ := List.mem_map.mp (pm.mem_iff.mp hy)
      obtain ⟨b1, b2, b3⟩ := lp l hl
      exact ⟨l, rfl, b1, b2, b3⟩
    have S14 := S12.les L14
    clear pm R12 f12 flq nlq L12 L12' lp ll S12 S
    walk_at "w"
    refine ⟨6, rfl, ?_⟩
    refine ⟨ys, .inl (R14.l _ _ fpa), fun q1 h1 => ?_⟩
    rw [cut_6]
    have R15 := R14.new (o := .lst (ys.take 6)) h1
    have L15 := R14.newl (o := .lst (ys.take 6)) h1
    have f15 := upM_same (M := N14) (a := q1) (o := .lst (ys.take 6))
    have S15 := S14.les L15
    generalize upM N14 q1 (.lst (ys.take 6)) = N15 at R15 f15 S15
    generalize upM M14 q1 (.lst (ys.take 6)) = M15 at R15 ⊢
    clear S14 R14 L14 fpa npa h1 L15
    refine ⟨_, .ref (R15.l _ _ f15), fun j s M' => Rs N15 M' p q ∧ ∃ x6 x7 x8 x9 x10, s = sl3 a p e b m n x6 x7 x8 x9 x10, .of ⟨R15, _, _, _, _, _, rfl⟩, fun j s M' _ ⟨R', _⟩ => .ref (R'.l _ _ f15), ?_, ?_⟩
    · rintro j x s M1 hx ⟨R1, x6, x7, x8, x9, x10, rfl⟩
      obtain ⟨l, rfl, g1, g2, g3⟩ := good x (List.mem_of_mem_take (List.mem_of_getElem? hx))
      have lk : LotOk n l := ⟨g2.imp fun h => Nat.ne_of_lt h, g3⟩
      walk_at "w"
      refine ⟨b, .tup (natD l), m, n, ks, some (natD l), rfl, R1.l _ _ S15.hb, fa.k, vw_nat .tup, fun _ => ?_, fun nf => (nf fa.fair).elim⟩
      rw [ld_good g2 g3 g1]
      refine ⟨l, rfl, lk, fun r M2 L2 nor => ?_⟩
      have R2 := R1.to L2
      walk_at "w"
      refine ⟨m, n, .ref e, .tup (natD l), ks, l, rfl, .ref (R2.l _ _ S15.fe), .tup, fa.k, g2, g3, fun M3 L3 => ?_⟩
      have R3 := R2.to L3
      clear L2 L3
      cases ht : testB m n ks l with
      | true =>
        have S' := test_iff.mp ht
        have er := nor_same lk nor S'
        subst er
        walk_at "w"
        refine ⟨rfl, ?_⟩
        walk_at "w"
        refine ⟨p, q, m, n, e, ks, l, N15, rfl, R3, S15.fe, fa.k, g2, g3, S', fun M4 R4 => ?_⟩
        exact .of ⟨R4, _, _, _, _, _, rfl⟩
      | false =>
        have S' : ¬ Same (AL m n l) (AL m n (restL n l)) (lmV (nsR m n) ks l) := fun z => by rw [test_iff.mpr z] at ht; cases ht
        obtain ⟨u, v, b1, b2, hu, hv, hb1, hb2, lex, fu, no, rfl⟩ := nor_not fb lk nor S'
        walk_at "w"
        refine ⟨m, n, .ref e, ks, l, u, v, b1, b2, rfl, .ref (R3.l _ _ S15.fe), fa.k, lk, hu, hv, hb1, hb2, lex, fu, no, fun M4 L4 => ?_⟩
        exact .of ⟨R3.to L4, _, _, _, _, _, rfl⟩
    · rintro s M1 ⟨R1, x6, x7, x8, x9, x10, rfl⟩
      walk_at "w"
      refine ⟨n, rfl, by omega, fun lq M12 ls L12 nlq flq lp ll => ?_⟩
      obtain ⟨N12, L12', R12, f12⟩ := R1.newQ L12 nlq flq
      have S12 := S15.les L12'
      have p1 : 2 ^ 1 ≤ 2 ^ n := Nat.pow_le_pow_right (by decide) n1
      walk_at "w"
      refine ⟨p, q, .ref lq, _, N12, rfl, R12, .ref f12, by rw [List.length_map]; omega, by rw [List.length_map]; omega, fun v M13 R13 hv => ?_⟩
      obtain ⟨l, hl, rfl⟩ := List.mem_map.mp hv
      obtain ⟨g1, g2, g3⟩ := lp l hl
      have lk : LotOk n l := ⟨g2.imp fun h => Nat.ne_of_lt h, g3⟩
      clear hv f12 flq nlq L12 L12' R12 S15
      walk_at "w"
      refine ⟨_, .tup, fun h hh => ?_⟩
      have R14 := R13.new (o := .lst (natD l)) hh
      have L14 := R13.newl (o := .lst (natD l)) hh
      have f14 := R14.l _ _ (upM_same (M := N12) (a := h) (o := .lst (natD l)))
      replace R14 := R14.les L14
      generalize upM M13 h (.lst (natD l)) = M14 at R14 f14 ⊢
      walk_at "w"
      refine ⟨rfl, ?_⟩
      refine ⟨b, .ref h, m, n, ks, some (natD l), rfl, R14.l _ _ S12.hb, fa.k, vw_nat (.ref f14), fun _ => ?_, fun nf => (nf fa.fair).elim⟩
      rw [ld_good g2 g3 g1]
      refine ⟨l, rfl, lk, fun r M15 L15 nor => ?_⟩
      have R15 := R14.to L15
      have er : isN r = testB m n ks l := by
        cases ht : testB m n ks l with
        | true => rw [nor_same lk nor (test_iff.mp ht)]; rfl
        | false =>
          obtain ⟨u, v, b1, b2, _, _, _, _, _, _, _, rfl⟩ := nor_not fb lk nor fun z => by rw [test_iff.mpr z] at ht; cases ht
          rfl
      refine ⟨rfl, ?_⟩
      walk_at "w"
      refine ⟨m, n, .ref e, .tup (natD l), ks, l, rfl, .ref (R15.l _ _ S12.fe), .tup, fa.k, g2, g3, fun M16 L16 => ?_⟩
      have R16 := R15.to L16
      refine ne_bl er ?_
      clear L15 L16 R15 R14 f14 L14 R13
      have ll := lot_short lk
      have el : (natD l).length = l.length := by unfold natD; rw [List.length_map]
      have g4 := (gd_int (i := (l.length : Nat)) ⟨by omega, by omega⟩).four (by decide) (by decide)
      walk_at "w"
      refine ⟨Nat.zero_le _, ?_⟩
      walk_at "w"
      refine ⟨(by show 2 ≤ sizeLine; decide), ?_⟩
      walk_at "w"
      refine ⟨(by show 1 ≤ sizeLine; decide), ?_⟩
      walk_at "w"
      refine ⟨(by show 2 ≤ sizeLine; decide), ?_⟩
      walk_at "w"
      refine ⟨Nat.le_of_lt (size_ok (by rw [el]; omega)), ?_⟩
      walk_at "w"
      refine .inl ⟨_, .tup, ?_⟩
      rw [el]
      refine ⟨.int (l.length : Nat), .int _, g4.1, g4.2.1, g4.2.2.1, g4.2.2.2, ?_⟩
      walk_at "w"
      refine ⟨(by show 2 ≤ sizeLine; decide), ?_⟩
      walk_at "w"
      refine ⟨(by show 1 ≤ sizeLine; decide), ?_⟩
      walk_at "w"
      refine ⟨(by show 2 ≤ sizeLine; decide), ?_⟩
      walk_at "w"
      refine ⟨(by show 2 ≤ sizeLine; decide), ?_⟩
      walk_at "w"
      refine ⟨(by show 5 ≤ sizeLine; decide), fun h hh => ?_⟩
      have R3 := R16.new (o := .lst [D.tup [.tup [], .str (Str.ofString "-1")], .tup [.tup [.int n], .str (Str.ofString "0")], .tup [.tup (natD l ++ natD l), .str (PyData.int (l.length : Nat)).shown], .tup [.tup [.bl true], .str (Str.ofString "0")], .tup [.non, .str (Str.ofString "-1")]]) hh
      have L3 := R16.newl (o := .lst [D.tup [.tup [], .str (Str.ofString "-1")], .tup [.tup [.int n], .str (Str.ofString "0")], .tup [.tup (natD l ++ natD l), .str (PyData.int (l.length : Nat)).shown], .tup [.tup [.bl true], .str (Str.ofString "0")], .tup [.non, .str (Str.ofString "-1")]]) hh
      walk_at "w"
      refine ⟨p, q, .ref h, _, _, rfl, R3, .ref upM_same, by simp, by simp, fun wt M4 R4 hv => ?_⟩
      replace R4 := R4.les L3
      have bad : WrL K n wt := wrL_of3 g2 g3 g1 (by omega) hv
      clear hv R3 L3 R16
      obtain ⟨wv, o, i, rfl, vo, lo, i0, i1⟩ := bad
      refine ⟨rfl, ?_⟩
      walk_at "w"
      refine ⟨S12.hT.les R4.l, fun M5 L5 T5 g5 => ?_⟩
      obtain ⟨N5, R5, t5, l5⟩ := R4.lam L5 T5
      have S5 := S12.lam l5 t5
      walk_at "w"
      refine ⟨b, wv, m, n, ks, o, rfl, R5.l _ _ S5.hb, S5.fa.k, vo _, fun _ => ?_, fun nf => (nf S5.fa.fair).elim⟩
      rw [lo]
      refine fun M6 L6 => ?_
      refine lot_hit Tl i0 (by omega) fun M7 L7 => ?_
      have R7 := R5.to (L6.trans L7)
      refine ifB_f (nd_f rfl) ?_
      walk_at "w"
      refine ⟨S5.hT.les R7.l, fun M8 L8 T8 g8 => ?_⟩
      obtain ⟨N8, R8, t8, l8⟩ := R7.lam L8 T8
      have S8 := S5.lam l8 t8
      clear L8 T8 L5 T5 L6 L7 R7 R5 R4
      walk_at "w"
      refine ⟨p, q, e, m, n, ks, N8, rfl, R8, S8.fe, S8.fa.k, fun sp si N9 M9 hi L9 nsp hsp R9 => ?_⟩
      have nf := spoil_not S8.fa hi
      have Bs := S8.fa.k.spoil (a := si)
      have S9 := S8.les L9
      walk_at "w"
      refine ⟨sp, wv, m, n, _, o, rfl, R9.l _ _ hsp, Bs, vo _, fun f => (nf f).elim, fun _ => fun i' r' c' M10 L10 => ?_⟩
      refine ref_hit Tr fun M11 L11 => ?_
      exact Lk.of (qq _)
end
end K83
set_option linter.all false
namespace K83
open PySem PySem.Spec PyProof.Rows L2 DL
open LamX (TabB)
section
variable {P₀ : Program} {w : World} {K : PySem.W.Frag} {mg : Str → Option Value} {base : Heap}
abbrev s_InvalidBoard_init : Stmt := inClass (top 2) 0
abbrev N_InvalidBoard_init : List Str := ["self", "at"]
abbrev P_InvalidBoard_init : List Str := ["self", "at"]
theorem sc_InvalidBoard_init : FnScope N_InvalidBoard_init P_InvalidBoard_init (defScope s_InvalidBoard_init) := ⟨rfl, rfl, rfl, by decide +kernel, rfl, by decide +kernel, by decide +kernel⟩
theorem okx_InvalidBoard_init {fI : Addr} {fdI : FuncData} (F : Fun K "__init__" "InvalidBoard.__init__" s_InvalidBoard_init fI fdI) : FnOk P₀ w K mg base CX0 1 fI fdI ["self", "at"] (spI K "at") := by
  refine F.ok sc_InvalidBoard_init (fun vs H Q E h => ?_) (fun cdv A outer s H vs Q E hr h => ?_)
  · obtain ⟨a, C, v, rfl, _⟩ := h
    rfl
  obtain ⟨a, C, v, rfl, T, hno, ha, q⟩ := h
  refine ⟨_, pss_one (Err.ps_put (pv 0) (pv 1)), ?_⟩
  exact ⟨_, rfl, _, rfl, a, C, rfl, T, hno, ha, fun dx h0 hn => q dx h0 hn⟩
abbrev s_InvalidSetting_init : Stmt := inClass (top 3) 0
abbrev N_InvalidSetting_init : List Str := ["self", "at"]
abbrev P_InvalidSetting_init : List Str := ["self", "at"]
theorem sc_InvalidSetting_init : FnScope N_InvalidSetting_init P_InvalidSetting_init (defScope s_InvalidSetting_init) := ⟨rfl, rfl, rfl, by decide +kernel, rfl, by decide +kernel, by decide +kernel⟩
theorem okx_InvalidSetting_init {fI : Addr} {fdI : FuncData} (F : Fun K "__init__" "InvalidSetting.__init__" s_InvalidSetting_init fI fdI) : FnOk P₀ w K mg base CX0 1 fI fdI ["self", "at"] (spI K "at") := by
  refine F.ok sc_InvalidSetting_init (fun vs H Q E h => ?_) (fun cdv A outer s H vs Q E hr h => ?_)
  · obtain ⟨a, C, v, rfl, _⟩ := h
    rfl
  obtain ⟨a, C, v, rfl, T, hno, ha, q⟩ := h
  refine ⟨_, pss_one (Err.ps_put (pv 0) (pv 1)), ?_⟩
  exact ⟨_, rfl, _, rfl, a, C, rfl, T, hno, ha, fun dx h0 hn => q dx h0 hn⟩
abbrev s_InvalidSize_init : Stmt := inClass (top 6) 0
abbrev N_InvalidSize_init : List Str := ["self", "word"]
abbrev P_InvalidSize_init : List Str := ["self", "word"]
theorem sc_InvalidSize_init : FnScope N_InvalidSize_init P_InvalidSize_init (defScope s_InvalidSize_init) := ⟨rfl, rfl, rfl, by decide +kernel, rfl, by decide +kernel, by decide +kernel⟩
theorem okx_InvalidSize_init {fI : Addr} {fdI : FuncData} (F : Fun K "__init__" "InvalidSize.__init__" s_InvalidSize_init fI fdI) : FnOk P₀ w K mg base CX0 1 fI fdI ["self", "word"] (spI K "word") := by
  refine F.ok sc_InvalidSize_init (fun vs H Q E h => ?_) (fun cdv A outer s H vs Q E hr h => ?_)
  · obtain ⟨a, C, v, rfl, _⟩ := h
    rfl
  obtain ⟨a, C, v, rfl, T, hno, ha, q⟩ := h
  refine ⟨_, pss_one (Err.ps_put (pv 0) (pv 1)), ?_⟩
  exact ⟨_, rfl, _, rfl, a, C, rfl, T, hno, ha, fun dx h0 hn => q dx h0 hn⟩
abbrev s_Refused_init : Stmt := inClass (top 7) 0
abbrev N_Refused_init : List Str := ["self", "at"]
abbrev P_Refused_init : List Str := ["self", "at"]
theorem sc_Refused_init : FnScope N_Refused_init P_Refused_init (defScope s_Refused_init) := ⟨rfl, rfl, rfl, by decide +kernel, rfl, by decide +kernel, by decide +kernel⟩
theorem okx_Refused_init {fI : Addr} {fdI : FuncData} (F : Fun K "__init__" "Refused.__init__" s_Refused_init fI fdI) : FnOk P₀ w K mg base CX0 1 fI fdI ["self", "at"] (spI K "at") := by
  refine F.ok sc_Refused_init (fun vs H Q E h => ?_) (fun cdv A outer s H vs Q E hr h => ?_)
  · obtain ⟨a, C, v, rfl, _⟩ := h
    rfl
  obtain ⟨a, C, v, rfl, T, hno, ha, q⟩ := h
  refine ⟨_, pss_one (Err.ps_put (pv 0) (pv 1)), ?_⟩
  exact ⟨_, rfl, _, rfl, a, C, rfl, T, hno, ha, fun dx h0 hn => q dx h0 hn⟩
abbrev s_InvalidLot_init : Stmt := inClass (top 4) 0
abbrev N_InvalidLot_init : List Str := ["self", "at"]
abbrev P_InvalidLot_init : List Str := ["self", "at"]
theorem sc_InvalidLot_init : FnScope N_InvalidLot_init P_InvalidLot_init (defScope s_InvalidLot_init) := ⟨rfl, rfl, rfl, by decide +kernel, rfl, by decide +kernel, by decide +kernel⟩
theorem okx_InvalidLot_init {fI : Addr} {fdI : FuncData} (F : Fun K "__init__" "InvalidLot.__init__" s_InvalidLot_init fI fdI) : FnOk P₀ w K mg base CX0 1 fI fdI ["self", "at"] (spI K "at") := by
  refine F.ok sc_InvalidLot_init (fun vs H Q E h => ?_) (fun cdv A outer s H vs Q E hr h => ?_)
  · obtain ⟨a, C, v, rfl, _⟩ := h
    rfl
  obtain ⟨a, C, v, rfl, T, hno, ha, q⟩ := h
  refine ⟨_, pss_one (Err.ps_put (pv 0) (pv 1)), ?_⟩
  exact ⟨_, rfl, _, rfl, a, C, rfl, T, hno, ha, fun dx h0 hn => q dx h0 hn⟩
end
def strKeysB (es : Array DictEntry) : Bool := es.toList.all fun e => match e.key with | .str _ _ => true | _ => false
theorem strKeys_of {es : Array DictEntry} (h : strKeysB es = true) : StrKeys es := fun e he => by
  have := List.all_eq_true.mp h e (Array.mem_toList_iff.mpr he)
  cases q : e.key with
  | str n t => exact ⟨n, t, rfl⟩
  | _ => rw [q] at this; cases this
theorem kw_full_no_board_lot {K : PySem.W.Frag} {f : Addr} {fd : FuncData} (F : Fun K "full_no" "full_no" s_full_no f fd) : KwB K fd ["board", "lot"] 0 ["board", "lot"] (fun us ws => us ++ ws) := by
  obtain ⟨oc, od, kV, doc, pm, an, cdv, ct, osl, rfl, _, _⟩ := F.ex
  exact ⟨fun s us ws _ l1 l2 => match us, ws, l1, l2 with
    | [], [_, _], _, _ => .of_eq rfl, fun {vs us zs ws} _ l2 r1 r2 => by
      match zs, ws, l2, r2 with
      | [_, _], _, _, .cons a0 (.cons a1 .nil) => exact r1.append (.cons a0 (.cons a1 .nil)), fun {K H vs zs ds es} _ l2 r1 r2 => by
      match zs, es, l2, r2 with
      | [_, _], _, _, .cons a0 (.cons a1 .nil) => exact r1.app (.cons a0 (.cons a1 .nil))⟩

abbrev kwP : ∀ {α : Type}, List α → List α → List α := fun us ws => match ws with
    | [a, b, c] => us ++ [c, b, a]
    | _ => us ++ ws
theorem kw_board {K : PySem.W.Frag} {f : Addr} {fd : FuncData} (F : Fun K "__init__" "Board.__init__" s_Board_init f fd) : KwB K fd ["self", "many", "sizes", "marks"] 1 ["marks", "sizes", "many"] kwP := by
  obtain ⟨oc, od, kV, doc, pm, an, cdv, ct, osl, rfl, _, _⟩ := F.ex
  exact ⟨fun s us ws _ l1 l2 => match us, ws, l1, l2 with
    | [_], [_, _, _], _, _ => .of_eq rfl, fun {vs us zs ws} _ l2 r1 r2 => by
      match zs, ws, l2, r2 with
      | [_, _, _], _, _, .cons a (.cons b (.cons c .nil)) => exact r1.append (.cons c (.cons b (.cons a .nil))), fun {K H vs zs ds es} _ l2 r1 r2 => by
      match zs, es, l2, r2 with
      | [_, _, _], _, _, .cons a (.cons b (.cons c .nil)) => exact r1.app (.cons c (.cons b (.cons a .nil)))⟩
set_option maxHeartbeats 0 in
theorem all_mk {l : PySem.W.OpenLaw} {w : World} {K : PySem.W.Frag} {h : Heap} {mg : Str → Option Value} {fa : Addr} (X : K.In h) (G : h.Ns mainGlobals mg) (hfa : mg "law" = some (.ref fa)) (hTab : ∀ x ∈ (["law"] : List Str), EmTab x K mg h)
    {fp0 : Addr} {ocp0 kVp0 dcp0 pmp0 cdp0 ctp0 : Value} {odp0 anp0 : Option Addr} {slp0 : Array (Option Value)}
    {fp1 : Addr} {ocp1 kVp1 dcp1 pmp1 cdp1 ctp1 : Value} {odp1 anp1 : Option Addr} {slp1 : Array (Option Value)}
    {fp2 : Addr} {ocp2 kVp2 dcp2 pmp2 cdp2 ctp2 : Value} {odp2 anp2 : Option Addr} {slp2 : Array (Option Value)}
    {fp3 : Addr} {ocp3 kVp3 dcp3 pmp3 cdp3 ctp3 : Value} {odp3 anp3 : Option Addr} {slp3 : Array (Option Value)}
    {fp4 : Addr} {ocp4 kVp4 dcp4 pmp4 cdp4 ctp4 : Value} {odp4 anp4 : Option Addr} {slp4 : Array (Option Value)}
    {fp5 : Addr} {ocp5 kVp5 dcp5 pmp5 cdp5 ctp5 : Value} {odp5 anp5 : Option Addr} {slp5 : Array (Option Value)}
    {fp6 : Addr} {ocp6 kVp6 dcp6 pmp6 cdp6 ctp6 : Value} {odp6 anp6 : Option Addr} {slp6 : Array (Option Value)}
    {fp7 : Addr} {ocp7 kVp7 dcp7 pmp7 cdp7 ctp7 : Value} {odp7 anp7 : Option Addr} {slp7 : Array (Option Value)}
    {fp8 : Addr} {ocp8 kVp8 dcp8 pmp8 cdp8 ctp8 : Value} {odp8 anp8 : Option Addr} {slp8 : Array (Option Value)}
    {fp9 : Addr} {ocp9 kVp9 dcp9 pmp9 cdp9 ctp9 : Value} {odp9 anp9 : Option Addr} {slp9 : Array (Option Value)}
    {fp10 : Addr} {ocp10 kVp10 dcp10 pmp10 cdp10 ctp10 : Value} {odp10 anp10 : Option Addr} {slp10 : Array (Option Value)}
    {fp11 : Addr} {ocp11 kVp11 dcp11 pmp11 cdp11 ctp11 : Value} {odp11 anp11 : Option Addr} {slp11 : Array (Option Value)}
    {fp12 : Addr} {ocp12 kVp12 dcp12 pmp12 cdp12 ctp12 : Value} {odp12 anp12 : Option Addr} {slp12 : Array (Option Value)}
    {fp13 : Addr} {ocp13 kVp13 dcp13 pmp13 cdp13 ctp13 : Value} {odp13 anp13 : Option Addr} {slp13 : Array (Option Value)}
    {fp14 : Addr} {ocp14 kVp14 dcp14 pmp14 cdp14 ctp14 : Value} {odp14 anp14 : Option Addr} {slp14 : Array (Option Value)}
    {fp15 : Addr} {ocp15 kVp15 dcp15 pmp15 cdp15 ctp15 : Value} {odp15 anp15 : Option Addr} {slp15 : Array (Option Value)}
    {fp16 : Addr} {ocp16 kVp16 dcp16 pmp16 cdp16 ctp16 : Value} {odp16 anp16 : Option Addr} {slp16 : Array (Option Value)}
    {fp17 : Addr} {ocp17 kVp17 dcp17 pmp17 cdp17 ctp17 : Value} {odp17 anp17 : Option Addr} {slp17 : Array (Option Value)}
    {fp18 : Addr} {ocp18 kVp18 dcp18 pmp18 cdp18 ctp18 : Value} {odp18 anp18 : Option Addr} {slp18 : Array (Option Value)}
    {fp19 : Addr} {ocp19 kVp19 dcp19 pmp19 cdp19 ctp19 : Value} {odp19 anp19 : Option Addr} {slp19 : Array (Option Value)}
    {fp20 : Addr} {ocp20 kVp20 dcp20 pmp20 cdp20 ctp20 : Value} {odp20 anp20 : Option Addr} {slp20 : Array (Option Value)}
    {fp21 : Addr} {ocp21 kVp21 dcp21 pmp21 cdp21 ctp21 : Value} {odp21 anp21 : Option Addr} {slp21 : Array (Option Value)}
    {fp22 : Addr} {ocp22 kVp22 dcp22 pmp22 cdp22 ctp22 : Value} {odp22 anp22 : Option Addr} {slp22 : Array (Option Value)}
    {fp23 : Addr} {ocp23 kVp23 dcp23 pmp23 cdp23 ctp23 : Value} {odp23 anp23 : Option Addr} {slp23 : Array (Option Value)}
    {fp24 : Addr} {ocp24 kVp24 dcp24 pmp24 cdp24 ctp24 : Value} {odp24 anp24 : Option Addr} {slp24 : Array (Option Value)}
    {fp25 : Addr} {ocp25 kVp25 dcp25 pmp25 cdp25 ctp25 : Value} {odp25 anp25 : Option Addr} {slp25 : Array (Option Value)}
    {fp26 : Addr} {ocp26 kVp26 dcp26 pmp26 cdp26 ctp26 : Value} {odp26 anp26 : Option Addr} {slp26 : Array (Option Value)}
    {fp27 : Addr} {ocp27 kVp27 dcp27 pmp27 cdp27 ctp27 : Value} {odp27 anp27 : Option Addr} {slp27 : Array (Option Value)}
    {fp28 : Addr} {ocp28 kVp28 dcp28 pmp28 cdp28 ctp28 : Value} {odp28 anp28 : Option Addr} {slp28 : Array (Option Value)}
    {fp29 : Addr} {ocp29 kVp29 dcp29 pmp29 cdp29 ctp29 : Value} {odp29 anp29 : Option Addr} {slp29 : Array (Option Value)}
    {fp30 : Addr} {ocp30 kVp30 dcp30 pmp30 cdp30 ctp30 : Value} {odp30 anp30 : Option Addr} {slp30 : Array (Option Value)}
    {fp31 : Addr} {ocp31 kVp31 dcp31 pmp31 cdp31 ctp31 : Value} {odp31 anp31 : Option Addr} {slp31 : Array (Option Value)}
    {fp32 : Addr} {ocp32 kVp32 dcp32 pmp32 cdp32 ctp32 : Value} {odp32 anp32 : Option Addr} {slp32 : Array (Option Value)}
    {fp33 : Addr} {ocp33 kVp33 dcp33 pmp33 cdp33 ctp33 : Value} {odp33 anp33 : Option Addr} {slp33 : Array (Option Value)}
    {fp34 : Addr} {ocp34 kVp34 dcp34 pmp34 cdp34 ctp34 : Value} {odp34 anp34 : Option Addr} {slp34 : Array (Option Value)}
    {fp35 : Addr} {ocp35 kVp35 dcp35 pmp35 cdp35 ctp35 : Value} {odp35 anp35 : Option Addr} {slp35 : Array (Option Value)}
    {fp36 : Addr} {ocp36 kVp36 dcp36 pmp36 cdp36 ctp36 : Value} {odp36 anp36 : Option Addr} {slp36 : Array (Option Value)}
    {fp37 : Addr} {ocp37 kVp37 dcp37 pmp37 cdp37 ctp37 : Value} {odp37 anp37 : Option Addr} {slp37 : Array (Option Value)}
    {fp38 : Addr} {ocp38 kVp38 dcp38 pmp38 cdp38 ctp38 : Value} {odp38 anp38 : Option Addr} {slp38 : Array (Option Value)}
    {fp39 : Addr} {ocp39 kVp39 dcp39 pmp39 cdp39 ctp39 : Value} {odp39 anp39 : Option Addr} {slp39 : Array (Option Value)}
    {fp40 : Addr} {ocp40 kVp40 dcp40 pmp40 cdp40 ctp40 : Value} {odp40 anp40 : Option Addr} {slp40 : Array (Option Value)}
    {fp41 : Addr} {ocp41 kVp41 dcp41 pmp41 cdp41 ctp41 : Value} {odp41 anp41 : Option Addr} {slp41 : Array (Option Value)}
    {fp42 : Addr} {ocp42 kVp42 dcp42 pmp42 cdp42 ctp42 : Value} {odp42 anp42 : Option Addr} {slp42 : Array (Option Value)}
    {fp43 : Addr} {ocp43 kVp43 dcp43 pmp43 cdp43 ctp43 : Value} {odp43 anp43 : Option Addr} {slp43 : Array (Option Value)}
    {cop44 Pp44 : Addr} {oCp44 : Value} {oDp44 : Option Addr} {vCp44 : Array Value} {sCp44 : Array (Option Value)}
    {fp44 : Addr} {ocp44 kVp44 dcp44 pmp44 ctp44 : Value} {odp44 anp44 : Option Addr} {slp44 : Array (Option Value)}
    {C_Board NBo : Addr} {nmBo qBo : Str} {bsBo : List Value} {hdBo : Bool} {snBo : List Str} {subBo : List Value} {abBo : Bool} {colBo : Option Bool} {ddBo : Option Addr} {b0 b1 b2 b3 b5 : Option Value} {oNB : Value} {dNB : Option Addr} {esB : Array DictEntry} {epB : Nat} {slNB : Array (Option Value)}
    {fm0 : Addr} {ocm0 kVm0 dcm0 pmm0 cdm0 ctm0 : Value} {odm0 anm0 : Option Addr} {slm0 : Array (Option Value)}
    {fm1 : Addr} {kVm1 dcm1 pmm1 cdm1 ctm1 : Value} {odm1 anm1 : Option Addr} {slm1 : Array (Option Value)}
    {fm2 : Addr} {ocm2 kVm2 dcm2 pmm2 cdm2 ctm2 : Value} {odm2 anm2 : Option Addr} {slm2 : Array (Option Value)}
    {fm3 : Addr} {ocm3 kVm3 dcm3 pmm3 cdm3 ctm3 : Value} {odm3 anm3 : Option Addr} {slm3 : Array (Option Value)}
    {C_BoardError : Addr}
    {C_InvalidBoard N0 : Addr} {nm0 q0 : Str} {bs0 : List Value} {sn0 : List Str} {sub0 : List Value} {ab0 : Bool} {col0 : Option Bool} {dd0 : Option Addr} {m00 m01 m02 m03 m05 : Option Value}
    {fx0 : Addr} {ocx0 kVx0 dcx0 pmx0 cdx0 ctx0 : Value} {odx0 anx0 : Option Addr} {slx0 : Array (Option Value)}
    {C_InvalidSetting N1 : Addr} {nm1 q1 : Str} {bs1 : List Value} {sn1 : List Str} {sub1 : List Value} {ab1 : Bool} {col1 : Option Bool} {dd1 : Option Addr} {m10 m11 m12 m13 m15 : Option Value}
    {fx1 : Addr} {ocx1 kVx1 dcx1 pmx1 cdx1 ctx1 : Value} {odx1 anx1 : Option Addr} {slx1 : Array (Option Value)}
    {C_InvalidSize N2 : Addr} {nm2 q2 : Str} {bs2 : List Value} {sn2 : List Str} {sub2 : List Value} {ab2 : Bool} {col2 : Option Bool} {dd2 : Option Addr} {m20 m21 m22 m23 m25 : Option Value}
    {fx2 : Addr} {ocx2 kVx2 dcx2 pmx2 cdx2 ctx2 : Value} {odx2 anx2 : Option Addr} {slx2 : Array (Option Value)}
    {C_Refused N3 : Addr} {nm3 q3 : Str} {bs3 : List Value} {sn3 : List Str} {sub3 : List Value} {ab3 : Bool} {col3 : Option Bool} {dd3 : Option Addr} {m30 m31 m32 m33 m35 : Option Value}
    {fx3 : Addr} {ocx3 kVx3 dcx3 pmx3 cdx3 ctx3 : Value} {odx3 anx3 : Option Addr} {slx3 : Array (Option Value)}
    {C_InvalidLot N4 : Addr} {nm4 q4 : Str} {bs4 : List Value} {sn4 : List Str} {sub4 : List Value} {ab4 : Bool} {col4 : Option Bool} {dd4 : Option Addr} {m40 m41 m42 m43 m45 : Option Value}
    {fx4 : Addr} {ocx4 kVx4 dcx4 pmx4 cdx4 ctx4 : Value} {odx4 anx4 : Option Addr} {slx4 : Array (Option Value)}
    {tP tS : Tok}
    (ap0 : PySem.W.nsIn K mainGlobals "is_integer" = some (some (.ref fp0)))
    (lp0 : K.lookup fp0 = some ⟨ocp0, odp0, .func (PySem.W.fnOf "is_integer" "is_integer" (defArgs s_is_integer) (defBody s_is_integer) (defScope s_is_integer) .none kVp0 dcp0 pmp0 anp0 cdp0 ctp0), slp0⟩)
    (cp0 : PySem.W.codeIn K cdp0 "is_integer" = true)
    (kp0 : PySem.W.keepIn K (.ref fp0) = true)
    (ap1 : PySem.W.nsIn K mainGlobals "is_below" = some (some (.ref fp1)))
    (lp1 : K.lookup fp1 = some ⟨ocp1, odp1, .func (PySem.W.fnOf "is_below" "is_below" (defArgs s_is_below) (defBody s_is_below) (defScope s_is_below) .none kVp1 dcp1 pmp1 anp1 cdp1 ctp1), slp1⟩)
    (cp1 : PySem.W.codeIn K cdp1 "is_below" = true)
    (kp1 : PySem.W.keepIn K (.ref fp1) = true)
    (ap2 : PySem.W.nsIn K mainGlobals "is_between" = some (some (.ref fp2)))
    (lp2 : K.lookup fp2 = some ⟨ocp2, odp2, .func (PySem.W.fnOf "is_between" "is_between" (defArgs s_is_between) (defBody s_is_between) (defScope s_is_between) .none kVp2 dcp2 pmp2 anp2 cdp2 ctp2), slp2⟩)
    (cp2 : PySem.W.codeIn K cdp2 "is_between" = true)
    (kp2 : PySem.W.keepIn K (.ref fp2) = true)
    (ap3 : PySem.W.nsIn K mainGlobals "is_sequence" = some (some (.ref fp3)))
    (lp3 : K.lookup fp3 = some ⟨ocp3, odp3, .func (PySem.W.fnOf "is_sequence" "is_sequence" (defArgs s_is_sequence) (defBody s_is_sequence) (defScope s_is_sequence) .none kVp3 dcp3 pmp3 anp3 cdp3 ctp3), slp3⟩)
    (cp3 : PySem.W.codeIn K cdp3 "is_sequence" = true)
    (kp3 : PySem.W.keepIn K (.ref fp3) = true)
    (ap4 : PySem.W.nsIn K mainGlobals "product_of" = some (some (.ref fp4)))
    (lp4 : K.lookup fp4 = some ⟨ocp4, odp4, .func (PySem.W.fnOf "product_of" "product_of" (defArgs s_product_of) (defBody s_product_of) (defScope s_product_of) .none kVp4 dcp4 pmp4 anp4 cdp4 ctp4), slp4⟩)
    (cp4 : PySem.W.codeIn K cdp4 "product_of" = true)
    (kp4 : PySem.W.keepIn K (.ref fp4) = true)
    (ap5 : PySem.W.nsIn K mainGlobals "wrong_place" = some (some (.ref fp5)))
    (lp5 : K.lookup fp5 = some ⟨ocp5, odp5, .func (PySem.W.fnOf "wrong_place" "wrong_place" (defArgs s_wrong_place) (defBody s_wrong_place) (defScope s_wrong_place) .none kVp5 dcp5 pmp5 anp5 cdp5 ctp5), slp5⟩)
    (cp5 : PySem.W.codeIn K cdp5 "wrong_place" = true)
    (kp5 : PySem.W.keepIn K (.ref fp5) = true)
    (ap6 : PySem.W.nsIn K mainGlobals "wrong_size" = some (some (.ref fp6)))
    (lp6 : K.lookup fp6 = some ⟨ocp6, odp6, .func (PySem.W.fnOf "wrong_size" "wrong_size" (defArgs s_wrong_size) (defBody s_wrong_size) (defScope s_wrong_size) .none kVp6 dcp6 pmp6 anp6 cdp6 ctp6), slp6⟩)
    (cp6 : PySem.W.codeIn K cdp6 "wrong_size" = true)
    (kp6 : PySem.W.keepIn K (.ref fp6) = true)
    (ap7 : PySem.W.nsIn K mainGlobals "setting_number" = some (some (.ref fp7)))
    (lp7 : K.lookup fp7 = some ⟨ocp7, odp7, .func (PySem.W.fnOf "setting_number" "setting_number" (defArgs s_setting_number) (defBody s_setting_number) (defScope s_setting_number) .none kVp7 dcp7 pmp7 anp7 cdp7 ctp7), slp7⟩)
    (cp7 : PySem.W.codeIn K cdp7 "setting_number" = true)
    (kp7 : PySem.W.keepIn K (.ref fp7) = true)
    (ap8 : PySem.W.nsIn K mainGlobals "steps_of" = some (some (.ref fp8)))
    (lp8 : K.lookup fp8 = some ⟨ocp8, odp8, .func (PySem.W.fnOf "steps_of" "steps_of" (defArgs s_steps_of) (defBody s_steps_of) (defScope s_steps_of) .none kVp8 dcp8 pmp8 anp8 cdp8 ctp8), slp8⟩)
    (cp8 : PySem.W.codeIn K cdp8 "steps_of" = true)
    (kp8 : PySem.W.keepIn K (.ref fp8) = true)
    (ap9 : PySem.W.nsIn K mainGlobals "need_setting" = some (some (.ref fp9)))
    (lp9 : K.lookup fp9 = some ⟨ocp9, odp9, .func (PySem.W.fnOf "need_setting" "need_setting" (defArgs s_need_setting) (defBody s_need_setting) (defScope s_need_setting) .none kVp9 dcp9 pmp9 anp9 cdp9 ctp9), slp9⟩)
    (cp9 : PySem.W.codeIn K cdp9 "need_setting" = true)
    (kp9 : PySem.W.keepIn K (.ref fp9) = true)
    (ap10 : PySem.W.nsIn K mainGlobals "lot_sizes" = some (some (.ref fp10)))
    (lp10 : K.lookup fp10 = some ⟨ocp10, odp10, .func (PySem.W.fnOf "lot_sizes" "lot_sizes" (defArgs s_lot_sizes) (defBody s_lot_sizes) (defScope s_lot_sizes) .none kVp10 dcp10 pmp10 anp10 cdp10 ctp10), slp10⟩)
    (cp10 : PySem.W.codeIn K cdp10 "lot_sizes" = true)
    (kp10 : PySem.W.keepIn K (.ref fp10) = true)
    (ap11 : PySem.W.nsIn K mainGlobals "all_settings" = some (some (.ref fp11)))
    (lp11 : K.lookup fp11 = some ⟨ocp11, odp11, .func (PySem.W.fnOf "all_settings" "all_settings" (defArgs s_all_settings) (defBody s_all_settings) (defScope s_all_settings) .none kVp11 dcp11 pmp11 anp11 cdp11 ctp11), slp11⟩)
    (cp11 : PySem.W.codeIn K cdp11 "all_settings" = true)
    (kp11 : PySem.W.keepIn K (.ref fp11) = true)
    (ap12 : PySem.W.nsIn K mainGlobals "need_lot" = some (some (.ref fp12)))
    (lp12 : K.lookup fp12 = some ⟨ocp12, odp12, .func (PySem.W.fnOf "need_lot" "need_lot" (defArgs s_need_lot) (defBody s_need_lot) (defScope s_need_lot) .none kVp12 dcp12 pmp12 anp12 cdp12 ctp12), slp12⟩)
    (cp12 : PySem.W.codeIn K cdp12 "need_lot" = true)
    (kp12 : PySem.W.keepIn K (.ref fp12) = true)
    (ap13 : PySem.W.nsIn K mainGlobals "rest_of" = some (some (.ref fp13)))
    (lp13 : K.lookup fp13 = some ⟨ocp13, odp13, .func (PySem.W.fnOf "rest_of" "rest_of" (defArgs s_rest_of) (defBody s_rest_of) (defScope s_rest_of) .none kVp13 dcp13 pmp13 anp13 cdp13 ctp13), slp13⟩)
    (cp13 : PySem.W.codeIn K cdp13 "rest_of" = true)
    (kp13 : PySem.W.keepIn K (.ref fp13) = true)
    (ap14 : PySem.W.nsIn K mainGlobals "lot_contents" = some (some (.ref fp14)))
    (lp14 : K.lookup fp14 = some ⟨ocp14, odp14, .func (PySem.W.fnOf "lot_contents" "lot_contents" (defArgs s_lot_contents) (defBody s_lot_contents) (defScope s_lot_contents) .none kVp14 dcp14 pmp14 anp14 cdp14 ctp14), slp14⟩)
    (cp14 : PySem.W.codeIn K cdp14 "lot_contents" = true)
    (kp14 : PySem.W.keepIn K (.ref fp14) = true)
    (ap15 : PySem.W.nsIn K mainGlobals "lot_step" = some (some (.ref fp15)))
    (lp15 : K.lookup fp15 = some ⟨ocp15, odp15, .func (PySem.W.fnOf "lot_step" "lot_step" (defArgs s_lot_step) (defBody s_lot_step) (defScope s_lot_step) .none kVp15 dcp15 pmp15 anp15 cdp15 ctp15), slp15⟩)
    (cp15 : PySem.W.codeIn K cdp15 "lot_step" = true)
    (kp15 : PySem.W.keepIn K (.ref fp15) = true)
    (ap16 : PySem.W.nsIn K mainGlobals "lot_marks" = some (some (.ref fp16)))
    (lp16 : K.lookup fp16 = some ⟨ocp16, odp16, .func (PySem.W.fnOf "lot_marks" "lot_marks" (defArgs s_lot_marks) (defBody s_lot_marks) (defScope s_lot_marks) .none kVp16 dcp16 pmp16 anp16 cdp16 ctp16), slp16⟩)
    (cp16 : PySem.W.codeIn K cdp16 "lot_marks" = true)
    (kp16 : PySem.W.keepIn K (.ref fp16) = true)
    (ap17 : PySem.W.nsIn K mainGlobals "_law_draw" = some (some (.ref fp17)))
    (lp17 : K.lookup fp17 = some ⟨ocp17, odp17, .func (PySem.W.fnOf "_law_draw" "_law_draw" (defArgs s__law_draw) (defBody s__law_draw) (defScope s__law_draw) .none kVp17 dcp17 pmp17 anp17 cdp17 ctp17), slp17⟩)
    (cp17 : PySem.W.codeIn K cdp17 "_law_draw" = true)
    (kp17 : PySem.W.keepIn K (.ref fp17) = true)
    (ap18 : PySem.W.nsIn K mainGlobals "_law_pick" = some (some (.ref fp18)))
    (lp18 : K.lookup fp18 = some ⟨ocp18, odp18, .func (PySem.W.fnOf "_law_pick" "_law_pick" (defArgs s__law_pick) (defBody s__law_pick) (defScope s__law_pick) .none kVp18 dcp18 pmp18 anp18 cdp18 ctp18), slp18⟩)
    (cp18 : PySem.W.codeIn K cdp18 "_law_pick" = true)
    (kp18 : PySem.W.keepIn K (.ref fp18) = true)
    (ap19 : PySem.W.nsIn K mainGlobals "_law_mixed" = some (some (.ref fp19)))
    (lp19 : K.lookup fp19 = some ⟨ocp19, odp19, .func (PySem.W.fnOf "_law_mixed" "_law_mixed" (defArgs s__law_mixed) (defBody s__law_mixed) (defScope s__law_mixed) .none kVp19 dcp19 pmp19 anp19 cdp19 ctp19), slp19⟩)
    (cp19 : PySem.W.codeIn K cdp19 "_law_mixed" = true)
    (kp19 : PySem.W.keepIn K (.ref fp19) = true)
    (ap20 : PySem.W.nsIn K mainGlobals "_law_deal" = some (some (.ref fp20)))
    (lp20 : K.lookup fp20 = some ⟨ocp20, odp20, .func (PySem.W.fnOf "_law_deal" "_law_deal" (defArgs s__law_deal) (defBody s__law_deal) (defScope s__law_deal) .none kVp20 dcp20 pmp20 anp20 cdp20 ctp20), slp20⟩)
    (cp20 : PySem.W.codeIn K cdp20 "_law_deal" = true)
    (kp20 : PySem.W.keepIn K (.ref fp20) = true)
    (ap21 : PySem.W.nsIn K mainGlobals "first_twice" = some (some (.ref fp21)))
    (lp21 : K.lookup fp21 = some ⟨ocp21, odp21, .func (PySem.W.fnOf "first_twice" "first_twice" (defArgs s_first_twice) (defBody s_first_twice) (defScope s_first_twice) .none kVp21 dcp21 pmp21 anp21 cdp21 ctp21), slp21⟩)
    (cp21 : PySem.W.codeIn K cdp21 "first_twice" = true)
    (kp21 : PySem.W.keepIn K (.ref fp21) = true)
    (ap22 : PySem.W.nsIn K mainGlobals "fair_fault" = some (some (.ref fp22)))
    (lp22 : K.lookup fp22 = some ⟨ocp22, odp22, .func (PySem.W.fnOf "fair_fault" "fair_fault" (defArgs s_fair_fault) (defBody s_fair_fault) (defScope s_fair_fault) .none kVp22 dcp22 pmp22 anp22 cdp22 ctp22), slp22⟩)
    (cp22 : PySem.W.codeIn K cdp22 "fair_fault" = true)
    (kp22 : PySem.W.keepIn K (.ref fp22) = true)
    (ap23 : PySem.W.nsIn K mainGlobals "need_fair" = some (some (.ref fp23)))
    (lp23 : K.lookup fp23 = some ⟨ocp23, odp23, .func (PySem.W.fnOf "need_fair" "need_fair" (defArgs s_need_fair) (defBody s_need_fair) (defScope s_need_fair) .none kVp23 dcp23 pmp23 anp23 cdp23 ctp23), slp23⟩)
    (cp23 : PySem.W.codeIn K cdp23 "need_fair" = true)
    (kp23 : PySem.W.keepIn K (.ref fp23) = true)
    (ap24 : PySem.W.nsIn K mainGlobals "_law_settings" = some (some (.ref fp24)))
    (lp24 : K.lookup fp24 = some ⟨ocp24, odp24, .func (PySem.W.fnOf "_law_settings" "_law_settings" (defArgs s__law_settings) (defBody s__law_settings) (defScope s__law_settings) .none kVp24 dcp24 pmp24 anp24 cdp24 ctp24), slp24⟩)
    (cp24 : PySem.W.codeIn K cdp24 "_law_settings" = true)
    (kp24 : PySem.W.keepIn K (.ref fp24) = true)
    (ap25 : PySem.W.nsIn K mainGlobals "_law_number" = some (some (.ref fp25)))
    (lp25 : K.lookup fp25 = some ⟨ocp25, odp25, .func (PySem.W.fnOf "_law_number" "_law_number" (defArgs s__law_number) (defBody s__law_number) (defScope s__law_number) .none kVp25 dcp25 pmp25 anp25 cdp25 ctp25), slp25⟩)
    (cp25 : PySem.W.codeIn K cdp25 "_law_number" = true)
    (kp25 : PySem.W.keepIn K (.ref fp25) = true)
    (ap26 : PySem.W.nsIn K mainGlobals "_law_bends" = some (some (.ref fp26)))
    (lp26 : K.lookup fp26 = some ⟨ocp26, odp26, .func (PySem.W.fnOf "_law_bends" "_law_bends" (defArgs s__law_bends) (defBody s__law_bends) (defScope s__law_bends) .none kVp26 dcp26 pmp26 anp26 cdp26 ctp26), slp26⟩)
    (cp26 : PySem.W.codeIn K cdp26 "_law_bends" = true)
    (kp26 : PySem.W.keepIn K (.ref fp26) = true)
    (ap27 : PySem.W.nsIn K mainGlobals "_law_two_bits" = some (some (.ref fp27)))
    (lp27 : K.lookup fp27 = some ⟨ocp27, odp27, .func (PySem.W.fnOf "_law_two_bits" "_law_two_bits" (defArgs s__law_two_bits) (defBody s__law_two_bits) (defScope s__law_two_bits) .none kVp27 dcp27 pmp27 anp27 cdp27 ctp27), slp27⟩)
    (cp27 : PySem.W.codeIn K cdp27 "_law_two_bits" = true)
    (kp27 : PySem.W.keepIn K (.ref fp27) = true)
    (ap28 : PySem.W.nsIn K mainGlobals "_law_times" = some (some (.ref fp28)))
    (lp28 : K.lookup fp28 = some ⟨ocp28, odp28, .func (PySem.W.fnOf "_law_times" "_law_times" (defArgs s__law_times) (defBody s__law_times) (defScope s__law_times) .none kVp28 dcp28 pmp28 anp28 cdp28 ctp28), slp28⟩)
    (cp28 : PySem.W.codeIn K cdp28 "_law_times" = true)
    (kp28 : PySem.W.keepIn K (.ref fp28) = true)
    (ap29 : PySem.W.nsIn K mainGlobals "_law_products" = some (some (.ref fp29)))
    (lp29 : K.lookup fp29 = some ⟨ocp29, odp29, .func (PySem.W.fnOf "_law_products" "_law_products" (defArgs s__law_products) (defBody s__law_products) (defScope s__law_products) .none kVp29 dcp29 pmp29 anp29 cdp29 ctp29), slp29⟩)
    (cp29 : PySem.W.codeIn K cdp29 "_law_products" = true)
    (kp29 : PySem.W.keepIn K (.ref fp29) = true)
    (ap30 : PySem.W.nsIn K mainGlobals "_law_board" = some (some (.ref fp30)))
    (lp30 : K.lookup fp30 = some ⟨ocp30, odp30, .func (PySem.W.fnOf "_law_board" "_law_board" (defArgs s__law_board) (defBody s__law_board) (defScope s__law_board) .none kVp30 dcp30 pmp30 anp30 cdp30 ctp30), slp30⟩)
    (cp30 : PySem.W.codeIn K cdp30 "_law_board" = true)
    (kp30 : PySem.W.keepIn K (.ref fp30) = true)
    (ap31 : PySem.W.nsIn K mainGlobals "_law_spoilt" = some (some (.ref fp31)))
    (lp31 : K.lookup fp31 = some ⟨ocp31, odp31, .func (PySem.W.fnOf "_law_spoilt" "_law_spoilt" (defArgs s__law_spoilt) (defBody s__law_spoilt) (defScope s__law_spoilt) .none kVp31 dcp31 pmp31 anp31 cdp31 ctp31), slp31⟩)
    (cp31 : PySem.W.codeIn K cdp31 "_law_spoilt" = true)
    (kp31 : PySem.W.keepIn K (.ref fp31) = true)
    (ap32 : PySem.W.nsIn K mainGlobals "_law_is_refused" = some (some (.ref fp32)))
    (lp32 : K.lookup fp32 = some ⟨ocp32, odp32, .func (PySem.W.fnOf "_law_is_refused" "_law_is_refused" (defArgs s__law_is_refused) (defBody s__law_is_refused) (defScope s__law_is_refused) .none kVp32 dcp32 pmp32 anp32 cdp32 ctp32), slp32⟩)
    (cp32 : PySem.W.codeIn K cdp32 "_law_is_refused" = true)
    (kp32 : PySem.W.keepIn K (.ref fp32) = true)
    (ap33 : PySem.W.nsIn K mainGlobals "_law_places" = some (some (.ref fp33)))
    (lp33 : K.lookup fp33 = some ⟨ocp33, odp33, .func (PySem.W.fnOf "_law_places" "_law_places" (defArgs s__law_places) (defBody s__law_places) (defScope s__law_places) .none kVp33 dcp33 pmp33 anp33 cdp33 ctp33), slp33⟩)
    (cp33 : PySem.W.codeIn K cdp33 "_law_places" = true)
    (kp33 : PySem.W.keepIn K (.ref fp33) = true)
    (ap34 : PySem.W.nsIn K mainGlobals "_law_is_tested" = some (some (.ref fp34)))
    (lp34 : K.lookup fp34 = some ⟨ocp34, odp34, .func (PySem.W.fnOf "_law_is_tested" "_law_is_tested" (defArgs s__law_is_tested) (defBody s__law_is_tested) (defScope s__law_is_tested) .none kVp34 dcp34 pmp34 anp34 cdp34 ctp34), slp34⟩)
    (cp34 : PySem.W.codeIn K cdp34 "_law_is_tested" = true)
    (kp34 : PySem.W.keepIn K (.ref fp34) = true)
    (ap35 : PySem.W.nsIn K mainGlobals "_law_lots" = some (some (.ref fp35)))
    (lp35 : K.lookup fp35 = some ⟨ocp35, odp35, .func (PySem.W.fnOf "_law_lots" "_law_lots" (defArgs s__law_lots) (defBody s__law_lots) (defScope s__law_lots) .none kVp35 dcp35 pmp35 anp35 cdp35 ctp35), slp35⟩)
    (cp35 : PySem.W.codeIn K cdp35 "_law_lots" = true)
    (kp35 : PySem.W.keepIn K (.ref fp35) = true)
    (ap36 : PySem.W.nsIn K mainGlobals "_law_wrong" = some (some (.ref fp36)))
    (lp36 : K.lookup fp36 = some ⟨ocp36, odp36, .func (PySem.W.fnOf "_law_wrong" "_law_wrong" (defArgs s__law_wrong) (defBody s__law_wrong) (defScope s__law_wrong) .none kVp36 dcp36 pmp36 anp36 cdp36 ctp36), slp36⟩)
    (cp36 : PySem.W.codeIn K cdp36 "_law_wrong" = true)
    (kp36 : PySem.W.keepIn K (.ref fp36) = true)
    (ap37 : PySem.W.nsIn K mainGlobals "differing_places" = some (some (.ref fp37)))
    (lp37 : K.lookup fp37 = some ⟨ocp37, odp37, .func (PySem.W.fnOf "differing_places" "differing_places" (defArgs s_differing_places) (defBody s_differing_places) (defScope s_differing_places) .none kVp37 dcp37 pmp37 anp37 cdp37 ctp37), slp37⟩)
    (cp37 : PySem.W.codeIn K cdp37 "differing_places" = true)
    (kp37 : PySem.W.keepIn K (.ref fp37) = true)
    (ap38 : PySem.W.nsIn K mainGlobals "full_change" = some (some (.ref fp38)))
    (lp38 : K.lookup fp38 = some ⟨ocp38, odp38, .func (PySem.W.fnOf "full_change" "full_change" (defArgs s_full_change) (defBody s_full_change) (defScope s_full_change) .none kVp38 dcp38 pmp38 anp38 cdp38 ctp38), slp38⟩)
    (cp38 : PySem.W.codeIn K cdp38 "full_change" = true)
    (kp38 : PySem.W.keepIn K (.ref fp38) = true)
    (ap39 : PySem.W.nsIn K mainGlobals "full_no" = some (some (.ref fp39)))
    (lp39 : K.lookup fp39 = some ⟨ocp39, odp39, .func (PySem.W.fnOf "full_no" "full_no" (defArgs s_full_no) (defBody s_full_no) (defScope s_full_no) .none kVp39 dcp39 pmp39 anp39 cdp39 ctp39), slp39⟩)
    (cp39 : PySem.W.codeIn K cdp39 "full_no" = true)
    (kp39 : PySem.W.keepIn K (.ref fp39) = true)
    (ap40 : PySem.W.nsIn K mainGlobals "_law_laid" = some (some (.ref fp40)))
    (lp40 : K.lookup fp40 = some ⟨ocp40, odp40, .func (PySem.W.fnOf "_law_laid" "_law_laid" (defArgs s__law_laid) (defBody s__law_laid) (defScope s__law_laid) .none kVp40 dcp40 pmp40 anp40 cdp40 ctp40), slp40⟩)
    (cp40 : PySem.W.codeIn K cdp40 "_law_laid" = true)
    (kp40 : PySem.W.keepIn K (.ref fp40) = true)
    (ap41 : PySem.W.nsIn K mainGlobals "_law_is_contents" = some (some (.ref fp41)))
    (lp41 : K.lookup fp41 = some ⟨ocp41, odp41, .func (PySem.W.fnOf "_law_is_contents" "_law_is_contents" (defArgs s__law_is_contents) (defBody s__law_is_contents) (defScope s__law_is_contents) .none kVp41 dcp41 pmp41 anp41 cdp41 ctp41), slp41⟩)
    (cp41 : PySem.W.codeIn K cdp41 "_law_is_contents" = true)
    (kp41 : PySem.W.keepIn K (.ref fp41) = true)
    (ap42 : PySem.W.nsIn K mainGlobals "_law_same" = some (some (.ref fp42)))
    (lp42 : K.lookup fp42 = some ⟨ocp42, odp42, .func (PySem.W.fnOf "_law_same" "_law_same" (defArgs s__law_same) (defBody s__law_same) (defScope s__law_same) .none kVp42 dcp42 pmp42 anp42 cdp42 ctp42), slp42⟩)
    (cp42 : PySem.W.codeIn K cdp42 "_law_same" = true)
    (kp42 : PySem.W.keepIn K (.ref fp42) = true)
    (ap43 : PySem.W.nsIn K mainGlobals "_law_holds" = some (some (.ref fp43)))
    (lp43 : K.lookup fp43 = some ⟨ocp43, odp43, .func (PySem.W.fnOf "_law_holds" "_law_holds" (defArgs s__law_holds) (defBody s__law_holds) (defScope s__law_holds) .none kVp43 dcp43 pmp43 anp43 cdp43 ctp43), slp43⟩)
    (cp43 : PySem.W.codeIn K cdp43 "_law_holds" = true)
    (kp43 : PySem.W.keepIn K (.ref fp43) = true)
    (ap44 : PySem.W.nsIn K mainGlobals "law" = some (some (.ref fp44)))
    (lp44 : K.lookup fp44 = some ⟨ocp44, odp44, .func (PySem.W.fnOf "law" "law" (defArgs s_law) (defBody s_law) (defScope s_law) .none kVp44 dcp44 pmp44 anp44 (.ref cop44) ctp44), slp44⟩)
    (cp44 : PySem.W.codeIn K (.ref cop44) "law" = true)
    (kp44 : PySem.W.keepIn K (.ref fp44) = true)
    (lCp44 : K.lookup cop44 = some ⟨oCp44, oDp44, .fields vCp44, sCp44⟩)
    (vPp44 : vCp44[11]? = some (.ref Pp44))
    (nPp44 : K.lookup Pp44 = none)
    (aBo : PySem.W.nsIn K mainGlobals "Board" = some (some (.ref C_Board)))
    (am0 : PySem.W.findIn K (.ref C_Board) "__init__" = some (some (.ref fm0)))
    (lm0 : K.lookup fm0 = some ⟨ocm0, odm0, .func (PySem.W.fnOf "__init__" "Board.__init__" (defArgs s_Board_init) (defBody s_Board_init) (defScope s_Board_init) .none kVm0 dcm0 pmm0 anm0 cdm0 ctm0), slm0⟩)
    (cm0 : PySem.W.codeIn K cdm0 "Board.__init__" = true)
    (km0 : PySem.W.keepIn K (.ref fm0) = true)
    (im0 : PySem.W.isFn K (.ref fm0) = true)
    (am1 : PySem.W.findIn K (.ref C_Board) "__eq__" = some (some (.ref fm1)))
    (lm1 : K.lookup fm1 = some ⟨.type "function", odm1, .func (PySem.W.fnOf "__eq__" "Board.__eq__" (defArgs s_Board_eq) (defBody s_Board_eq) (defScope s_Board_eq) .none kVm1 dcm1 pmm1 anm1 cdm1 ctm1), slm1⟩)
    (cm1 : PySem.W.codeIn K cdm1 "Board.__eq__" = true)
    (km1 : PySem.W.keepIn K (.ref fm1) = true)
    (im1 : PySem.W.isFn K (.ref fm1) = true)
    (am2 : PySem.W.findIn K (.ref C_Board) "__len__" = some (some (.ref fm2)))
    (lm2 : K.lookup fm2 = some ⟨ocm2, odm2, .func (PySem.W.fnOf "__len__" "Board.__len__" (defArgs s_Board_len) (defBody s_Board_len) (defScope s_Board_len) .none kVm2 dcm2 pmm2 anm2 cdm2 ctm2), slm2⟩)
    (cm2 : PySem.W.codeIn K cdm2 "Board.__len__" = true)
    (km2 : PySem.W.keepIn K (.ref fm2) = true)
    (im2 : PySem.W.isFn K (.ref fm2) = true)
    (am3 : PySem.W.findIn K (.ref C_Board) "__call__" = some (some (.ref fm3)))
    (lm3 : K.lookup fm3 = some ⟨ocm3, odm3, .func (PySem.W.fnOf "__call__" "Board.__call__" (defArgs s_Board_call) (defBody s_Board_call) (defScope s_Board_call) .none kVm3 dcm3 pmm3 anm3 cdm3 ctm3), slm3⟩)
    (cm3 : PySem.W.codeIn K cdm3 "Board.__call__" = true)
    (km3 : PySem.W.keepIn K (.ref fm3) = true)
    (im3 : PySem.W.isFn K (.ref fm3) = true)
    (fnCall : PySem.W.fnIn K fm3 = true)
    (xBo : K.lookup C_Board = some (excClassObj nmBo qBo C_Board NBo bsBo [.type "object"] hdBo snBo subBo abBo colBo ddBo b0 b1 b2 b3 b5 "object.__new__"))
    (xNB : K.lookup NBo = some ⟨oNB, dNB, .dict esB epB, slNB⟩)
    (skB : strKeysB esB = true)
    (feB : nsFind esB "__eq__" = some (.ref fm1))
    (fnB : nsFind esB "__ne__" = none)
    (pgB : PySem.W.plainGet K C_Board Str.empty = true)
    (hdB : PySem.W.hasDictIn K C_Board = true)
    (poB : PySem.W.plainOver K C_Board = true)
    (saB : PySem.W.findIn K (.ref C_Board) "__setattr__" = some (some (.builtin "object.__setattr__")))
    (haB : PySem.W.findIn K (.ref C_Board) "__class__" = some (some (.builtin "object.__class__")))
    (mrB : PySem.W.mroIn K C_Board (.type "object") = some true)
    (kitB : PySem.W.kitOne K (.ref C_Board) (.ref C_Board) = some true)
    (no_NoneType : PySem.W.kitOne K (.type "NoneType") (.ref C_Board) = some false)
    (no_bool : PySem.W.kitOne K (.type "bool") (.ref C_Board) = some false)
    (no_int : PySem.W.kitOne K (.type "int") (.ref C_Board) = some false)
    (no_str : PySem.W.kitOne K (.type "str") (.ref C_Board) = some false)
    (no_tuple : PySem.W.kitOne K (.type "tuple") (.ref C_Board) = some false)
    (no_list : PySem.W.kitOne K (.type "list") (.ref C_Board) = some false)
    (ty_bool : PySem.W.kitOne K (.ref C_Board) (.type "bool") = some false)
    (ty_int : PySem.W.kitOne K (.ref C_Board) (.type "int") = some false)
    (ty_str : PySem.W.kitOne K (.ref C_Board) (.type "str") = some false)
    (ty_tuple : PySem.W.kitOne K (.ref C_Board) (.type "tuple") = some false)
    (ty_list : PySem.W.kitOne K (.ref C_Board) (.type "list") = some false)
    (nf_NoneType : PySem.W.notFirst K C_Board (.type "NoneType") = true)
    (nf_bool : PySem.W.notFirst K C_Board (.type "bool") = true)
    (nf_int : PySem.W.notFirst K C_Board (.type "int") = true)
    (nf_str : PySem.W.notFirst K C_Board (.type "str") = true)
    (nf_tuple : PySem.W.notFirst K C_Board (.type "tuple") = true)
    (nf_list : PySem.W.notFirst K C_Board (.type "list") = true)
    (nf_self : PySem.W.notFirst K C_Board (.ref C_Board) = true)
    (na_many : PySem.W.findIn K (.ref C_Board) "many" = some none)
    (na_sizes : PySem.W.findIn K (.ref C_Board) "sizes" = some none)
    (na_marks : PySem.W.findIn K (.ref C_Board) "marks" = some none)
    (na_steps : PySem.W.findIn K (.ref C_Board) "steps" = some none)
    (mkB : PySem.W.makesIn K C_Board = true)
    (kpB : PySem.W.keepIn K (.ref C_Board) = true)
    (hnC : PySem.W.specialIn K (.builtin "object.__class__") "__get__" = some (some (.builtin "getset_descriptor.__get__")))
    (tkC : PySem.W.takesIn K (.builtin "object.__class__") = some true)
    (aBE : PySem.W.nsIn K mainGlobals "BoardError" = some (some (.ref C_BoardError)))
    (aX0 : PySem.W.nsIn K mainGlobals "InvalidBoard" = some (some (.ref C_InvalidBoard)))
    (xX0 : K.lookup C_InvalidBoard = some (excClassObj nm0 q0 C_InvalidBoard N0 bs0 [.ref C_BoardError, .type "Exception", .type "BaseException", .type "object"] true sn0 sub0 ab0 col0 dd0 m00 m01 m02 m03 m05 "Exception.__new__"))
    (saX0 : PySem.W.findIn K (.ref C_InvalidBoard) "__setattr__" = some (some (.builtin "object.__setattr__")))
    (gaX0 : PySem.W.findIn K (.ref C_InvalidBoard) "__getattribute__" = some (some (.builtin "BaseException.__getattribute__")))
    (ggX0 : PySem.W.findIn K (.ref C_InvalidBoard) "__getattr__" = some none)
    (naX0 : PySem.W.findIn K (.ref C_InvalidBoard) "at" = some none)
    (ax0 : PySem.W.findIn K (.ref C_InvalidBoard) "__init__" = some (some (.ref fx0)))
    (lx0 : K.lookup fx0 = some ⟨ocx0, odx0, .func (PySem.W.fnOf "__init__" "InvalidBoard.__init__" (defArgs s_InvalidBoard_init) (defBody s_InvalidBoard_init) (defScope s_InvalidBoard_init) .none kVx0 dcx0 pmx0 anx0 cdx0 ctx0), slx0⟩)
    (cx0 : PySem.W.codeIn K cdx0 "InvalidBoard.__init__" = true)
    (kx0 : PySem.W.keepIn K (.ref fx0) = true)
    (tX0 : PySem.W.typeIn K (.ref fx0) = some (.type "function"))
    (kX0 : PySem.W.keepIn K (.ref C_InvalidBoard) = true)
    (eX0 : PySem.W.subIn K (.ref C_InvalidBoard) (.type "BaseException") = some true)
    (yX0 : PySem.W.typeIn K (.ref C_InvalidBoard) = some (.type "type"))
    (hX0 : PySem.W.hasDictIn K C_InvalidBoard = true)
    (iX0 : (PySem.W.clsIn K C_InvalidBoard).isSome = true)
    (cX0 : PySem.W.findIn K (.ref C_InvalidBoard) "__class__" = some (some (.builtin "object.__class__")))
    (mX0 : PySem.W.mroIn K C_InvalidBoard (.type "object") = some true)
    (aX1 : PySem.W.nsIn K mainGlobals "InvalidSetting" = some (some (.ref C_InvalidSetting)))
    (xX1 : K.lookup C_InvalidSetting = some (excClassObj nm1 q1 C_InvalidSetting N1 bs1 [.ref C_BoardError, .type "Exception", .type "BaseException", .type "object"] true sn1 sub1 ab1 col1 dd1 m10 m11 m12 m13 m15 "Exception.__new__"))
    (saX1 : PySem.W.findIn K (.ref C_InvalidSetting) "__setattr__" = some (some (.builtin "object.__setattr__")))
    (gaX1 : PySem.W.findIn K (.ref C_InvalidSetting) "__getattribute__" = some (some (.builtin "BaseException.__getattribute__")))
    (ggX1 : PySem.W.findIn K (.ref C_InvalidSetting) "__getattr__" = some none)
    (naX1 : PySem.W.findIn K (.ref C_InvalidSetting) "at" = some none)
    (ax1 : PySem.W.findIn K (.ref C_InvalidSetting) "__init__" = some (some (.ref fx1)))
    (lx1 : K.lookup fx1 = some ⟨ocx1, odx1, .func (PySem.W.fnOf "__init__" "InvalidSetting.__init__" (defArgs s_InvalidSetting_init) (defBody s_InvalidSetting_init) (defScope s_InvalidSetting_init) .none kVx1 dcx1 pmx1 anx1 cdx1 ctx1), slx1⟩)
    (cx1 : PySem.W.codeIn K cdx1 "InvalidSetting.__init__" = true)
    (kx1 : PySem.W.keepIn K (.ref fx1) = true)
    (tX1 : PySem.W.typeIn K (.ref fx1) = some (.type "function"))
    (kX1 : PySem.W.keepIn K (.ref C_InvalidSetting) = true)
    (eX1 : PySem.W.subIn K (.ref C_InvalidSetting) (.type "BaseException") = some true)
    (yX1 : PySem.W.typeIn K (.ref C_InvalidSetting) = some (.type "type"))
    (hX1 : PySem.W.hasDictIn K C_InvalidSetting = true)
    (iX1 : (PySem.W.clsIn K C_InvalidSetting).isSome = true)
    (cX1 : PySem.W.findIn K (.ref C_InvalidSetting) "__class__" = some (some (.builtin "object.__class__")))
    (mX1 : PySem.W.mroIn K C_InvalidSetting (.type "object") = some true)
    (aX2 : PySem.W.nsIn K mainGlobals "InvalidSize" = some (some (.ref C_InvalidSize)))
    (xX2 : K.lookup C_InvalidSize = some (excClassObj nm2 q2 C_InvalidSize N2 bs2 [.ref C_BoardError, .type "Exception", .type "BaseException", .type "object"] true sn2 sub2 ab2 col2 dd2 m20 m21 m22 m23 m25 "Exception.__new__"))
    (saX2 : PySem.W.findIn K (.ref C_InvalidSize) "__setattr__" = some (some (.builtin "object.__setattr__")))
    (gaX2 : PySem.W.findIn K (.ref C_InvalidSize) "__getattribute__" = some (some (.builtin "BaseException.__getattribute__")))
    (ggX2 : PySem.W.findIn K (.ref C_InvalidSize) "__getattr__" = some none)
    (naX2 : PySem.W.findIn K (.ref C_InvalidSize) "word" = some none)
    (ax2 : PySem.W.findIn K (.ref C_InvalidSize) "__init__" = some (some (.ref fx2)))
    (lx2 : K.lookup fx2 = some ⟨ocx2, odx2, .func (PySem.W.fnOf "__init__" "InvalidSize.__init__" (defArgs s_InvalidSize_init) (defBody s_InvalidSize_init) (defScope s_InvalidSize_init) .none kVx2 dcx2 pmx2 anx2 cdx2 ctx2), slx2⟩)
    (cx2 : PySem.W.codeIn K cdx2 "InvalidSize.__init__" = true)
    (kx2 : PySem.W.keepIn K (.ref fx2) = true)
    (tX2 : PySem.W.typeIn K (.ref fx2) = some (.type "function"))
    (kX2 : PySem.W.keepIn K (.ref C_InvalidSize) = true)
    (eX2 : PySem.W.subIn K (.ref C_InvalidSize) (.type "BaseException") = some true)
    (yX2 : PySem.W.typeIn K (.ref C_InvalidSize) = some (.type "type"))
    (hX2 : PySem.W.hasDictIn K C_InvalidSize = true)
    (iX2 : (PySem.W.clsIn K C_InvalidSize).isSome = true)
    (cX2 : PySem.W.findIn K (.ref C_InvalidSize) "__class__" = some (some (.builtin "object.__class__")))
    (mX2 : PySem.W.mroIn K C_InvalidSize (.type "object") = some true)
    (aX3 : PySem.W.nsIn K mainGlobals "Refused" = some (some (.ref C_Refused)))
    (xX3 : K.lookup C_Refused = some (excClassObj nm3 q3 C_Refused N3 bs3 [.ref C_BoardError, .type "Exception", .type "BaseException", .type "object"] true sn3 sub3 ab3 col3 dd3 m30 m31 m32 m33 m35 "Exception.__new__"))
    (saX3 : PySem.W.findIn K (.ref C_Refused) "__setattr__" = some (some (.builtin "object.__setattr__")))
    (gaX3 : PySem.W.findIn K (.ref C_Refused) "__getattribute__" = some (some (.builtin "BaseException.__getattribute__")))
    (ggX3 : PySem.W.findIn K (.ref C_Refused) "__getattr__" = some none)
    (naX3 : PySem.W.findIn K (.ref C_Refused) "at" = some none)
    (ax3 : PySem.W.findIn K (.ref C_Refused) "__init__" = some (some (.ref fx3)))
    (lx3 : K.lookup fx3 = some ⟨ocx3, odx3, .func (PySem.W.fnOf "__init__" "Refused.__init__" (defArgs s_Refused_init) (defBody s_Refused_init) (defScope s_Refused_init) .none kVx3 dcx3 pmx3 anx3 cdx3 ctx3), slx3⟩)
    (cx3 : PySem.W.codeIn K cdx3 "Refused.__init__" = true)
    (kx3 : PySem.W.keepIn K (.ref fx3) = true)
    (tX3 : PySem.W.typeIn K (.ref fx3) = some (.type "function"))
    (kX3 : PySem.W.keepIn K (.ref C_Refused) = true)
    (eX3 : PySem.W.subIn K (.ref C_Refused) (.type "BaseException") = some true)
    (yX3 : PySem.W.typeIn K (.ref C_Refused) = some (.type "type"))
    (hX3 : PySem.W.hasDictIn K C_Refused = true)
    (iX3 : (PySem.W.clsIn K C_Refused).isSome = true)
    (cX3 : PySem.W.findIn K (.ref C_Refused) "__class__" = some (some (.builtin "object.__class__")))
    (mX3 : PySem.W.mroIn K C_Refused (.type "object") = some true)
    (aX4 : PySem.W.nsIn K mainGlobals "InvalidLot" = some (some (.ref C_InvalidLot)))
    (xX4 : K.lookup C_InvalidLot = some (excClassObj nm4 q4 C_InvalidLot N4 bs4 [.ref C_BoardError, .type "Exception", .type "BaseException", .type "object"] true sn4 sub4 ab4 col4 dd4 m40 m41 m42 m43 m45 "Exception.__new__"))
    (saX4 : PySem.W.findIn K (.ref C_InvalidLot) "__setattr__" = some (some (.builtin "object.__setattr__")))
    (gaX4 : PySem.W.findIn K (.ref C_InvalidLot) "__getattribute__" = some (some (.builtin "BaseException.__getattribute__")))
    (ggX4 : PySem.W.findIn K (.ref C_InvalidLot) "__getattr__" = some none)
    (naX4 : PySem.W.findIn K (.ref C_InvalidLot) "at" = some none)
    (ax4 : PySem.W.findIn K (.ref C_InvalidLot) "__init__" = some (some (.ref fx4)))
    (lx4 : K.lookup fx4 = some ⟨ocx4, odx4, .func (PySem.W.fnOf "__init__" "InvalidLot.__init__" (defArgs s_InvalidLot_init) (defBody s_InvalidLot_init) (defScope s_InvalidLot_init) .none kVx4 dcx4 pmx4 anx4 cdx4 ctx4), slx4⟩)
    (cx4 : PySem.W.codeIn K cdx4 "InvalidLot.__init__" = true)
    (kx4 : PySem.W.keepIn K (.ref fx4) = true)
    (tX4 : PySem.W.typeIn K (.ref fx4) = some (.type "function"))
    (kX4 : PySem.W.keepIn K (.ref C_InvalidLot) = true)
    (eX4 : PySem.W.subIn K (.ref C_InvalidLot) (.type "BaseException") = some true)
    (yX4 : PySem.W.typeIn K (.ref C_InvalidLot) = some (.type "type"))
    (hX4 : PySem.W.hasDictIn K C_InvalidLot = true)
    (iX4 : (PySem.W.clsIn K C_InvalidLot).isSome = true)
    (cX4 : PySem.W.findIn K (.ref C_InvalidLot) "__class__" = some (some (.builtin "object.__class__")))
    (mX4 : PySem.W.mroIn K C_InvalidLot (.type "object") = some true)
    (sub_InvalidBoard_InvalidBoard : PySem.W.subIn K (.ref C_InvalidBoard) (.ref C_InvalidBoard) = some true)
    (sub_InvalidBoard_InvalidSize : PySem.W.subIn K (.ref C_InvalidBoard) (.ref C_InvalidSize) = some false)
    (sub_InvalidSetting_InvalidSetting : PySem.W.subIn K (.ref C_InvalidSetting) (.ref C_InvalidSetting) = some true)
    (sub_InvalidSize_InvalidSize : PySem.W.subIn K (.ref C_InvalidSize) (.ref C_InvalidSize) = some true)
    (sub_Refused_Refused : PySem.W.subIn K (.ref C_Refused) (.ref C_Refused) = some true)
    (sub_InvalidLot_InvalidLot : PySem.W.subIn K (.ref C_InvalidLot) (.ref C_InvalidLot) = some true)
    (is_InvalidSize_BoardError : PySem.W.kitOne K (.ref C_InvalidSize) (.ref C_BoardError) = some true)
    (is_InvalidSize_InvalidBoard : PySem.W.kitOne K (.ref C_InvalidSize) (.ref C_InvalidBoard) = some false)
    (is_InvalidBoard_BoardError : PySem.W.kitOne K (.ref C_InvalidBoard) (.ref C_BoardError) = some true)
    (is_InvalidSetting_BoardError : PySem.W.kitOne K (.ref C_InvalidSetting) (.ref C_BoardError) = some true)
    (is_InvalidLot_BoardError : PySem.W.kitOne K (.ref C_InvalidLot) (.ref C_BoardError) = some true)
    (is0V : PySem.W.kitOne K (.ref C_InvalidBoard) (.type "ValueError") = some false)
    (isLV : PySem.W.kitOne K (.ref C_InvalidLot) (.type "ValueError") = some false)
    (kP : PySem.W.nsIn K mainGlobals "MOST_PARTS" = some (some (.int 8 tP)))
    (kS : PySem.W.nsIn K mainGlobals "MOST_SETTINGS" = some (some (.int 20000 tS)))
    (zV : PySem.W.nsIn K mainGlobals "ValueError" = some none)
    (z_isi : PySem.W.nsIn K mainGlobals "isinstance" = some none)
    (z_int : PySem.W.nsIn K mainGlobals "int" = some none)
    (z_tup : PySem.W.nsIn K mainGlobals "tuple" = some none)
    (z_lst : PySem.W.nsIn K mainGlobals "list" = some none)
    (z_sorted : PySem.W.nsIn K mainGlobals "sorted" = some none)
    (z_all : PySem.W.nsIn K mainGlobals "all" = some none)
    (z_any : PySem.W.nsIn K mainGlobals "any" = some none)
    (z_enum : PySem.W.nsIn K mainGlobals "enumerate" = some none)
    (z_rng : PySem.W.nsIn K mainGlobals "range" = some none)
    (z_len : PySem.W.nsIn K mainGlobals "len" = some none)
    (z_abs : PySem.W.nsIn K mainGlobals "abs" = some none)
    (z_min : PySem.W.nsIn K mainGlobals "min" = some none)
    (z_max : PySem.W.nsIn K mainGlobals "max" = some none)
    (z_zip : PySem.W.nsIn K mainGlobals "zip" = some none)
    (z_bool : PySem.W.nsIn K mainGlobals "bool" = some none)
    (z_str : PySem.W.nsIn K mainGlobals "str" = some none)
    (z_repr : PySem.W.nsIn K mainGlobals "repr" = some none)
    (z_sum : PySem.W.nsIn K mainGlobals "sum" = some none)
    (z_rev : PySem.W.nsIn K mainGlobals "reversed" = some none)
    (z_set : PySem.W.nsIn K mainGlobals "set" = some none) :
    LawT l w K 10 63 "script" mg fa h := by
  have e := hfa.symm.trans (PySem.W.mg_of X G ap44)
  cases e
  have Fp0 := fun_mk (st := s_is_integer) lp0 cp0 kp0
  have Bp0 : Binds K _ ["value"] [] := Fp0.binds (ps := ["value"]) fun _ _ _ _ _ _ us hl => match us, hl with | [_], _ => rfl
  have Dp0 : Df K mg "is_integer" s_is_integer fp0 _ ["value"] := ⟨Fp0, PySem.W.mg_of X G ap0, Bp0⟩
  have Fp1 := fun_mk (st := s_is_below) lp1 cp1 kp1
  have Bp1 : Binds K _ ["value", "many"] [] := Fp1.binds (ps := ["value", "many"]) fun _ _ _ _ _ _ us hl => match us, hl with | [_, _], _ => rfl
  have Dp1 : Df K mg "is_below" s_is_below fp1 _ ["value", "many"] := ⟨Fp1, PySem.W.mg_of X G ap1, Bp1⟩
  have Fp2 := fun_mk (st := s_is_between) lp2 cp2 kp2
  have Bp2 : Binds K _ ["value", "least", "most"] [] := Fp2.binds (ps := ["value", "least", "most"]) fun _ _ _ _ _ _ us hl => match us, hl with | [_, _, _], _ => rfl
  have Dp2 : Df K mg "is_between" s_is_between fp2 _ ["value", "least", "most"] := ⟨Fp2, PySem.W.mg_of X G ap2, Bp2⟩
  have Fp3 := fun_mk (st := s_is_sequence) lp3 cp3 kp3
  have Bp3 : Binds K _ ["value"] [] := Fp3.binds (ps := ["value"]) fun _ _ _ _ _ _ us hl => match us, hl with | [_], _ => rfl
  have Dp3 : Df K mg "is_sequence" s_is_sequence fp3 _ ["value"] := ⟨Fp3, PySem.W.mg_of X G ap3, Bp3⟩
  have Fp4 := fun_mk (st := s_product_of) lp4 cp4 kp4
  have Bp4 : Binds K _ ["numbers"] [] := Fp4.binds (ps := ["numbers"]) fun _ _ _ _ _ _ us hl => match us, hl with | [_], _ => rfl
  have Dp4 : Df K mg "product_of" s_product_of fp4 _ ["numbers"] := ⟨Fp4, PySem.W.mg_of X G ap4, Bp4⟩
  have Fp5 := fun_mk (st := s_wrong_place) lp5 cp5 kp5
  have Bp5 : Binds K _ ["sizes", "value"] [] := Fp5.binds (ps := ["sizes", "value"]) fun _ _ _ _ _ _ us hl => match us, hl with | [_, _], _ => rfl
  have Dp5 : Df K mg "wrong_place" s_wrong_place fp5 _ ["sizes", "value"] := ⟨Fp5, PySem.W.mg_of X G ap5, Bp5⟩
  have Fp6 := fun_mk (st := s_wrong_size) lp6 cp6 kp6
  have Bp6 : Binds K _ ["value"] [] := Fp6.binds (ps := ["value"]) fun _ _ _ _ _ _ us hl => match us, hl with | [_], _ => rfl
  have Dp6 : Df K mg "wrong_size" s_wrong_size fp6 _ ["value"] := ⟨Fp6, PySem.W.mg_of X G ap6, Bp6⟩
  have Fp7 := fun_mk (st := s_setting_number) lp7 cp7 kp7
  have Bp7 : Binds K _ ["sizes", "setting"] [] := Fp7.binds (ps := ["sizes", "setting"]) fun _ _ _ _ _ _ us hl => match us, hl with | [_, _], _ => rfl
  have Dp7 : Df K mg "setting_number" s_setting_number fp7 _ ["sizes", "setting"] := ⟨Fp7, PySem.W.mg_of X G ap7, Bp7⟩
  have Fp8 := fun_mk (st := s_steps_of) lp8 cp8 kp8
  have Bp8 : Binds K _ ["sizes"] [] := Fp8.binds (ps := ["sizes"]) fun _ _ _ _ _ _ us hl => match us, hl with | [_], _ => rfl
  have Dp8 : Df K mg "steps_of" s_steps_of fp8 _ ["sizes"] := ⟨Fp8, PySem.W.mg_of X G ap8, Bp8⟩
  have Fp9 := fun_mk (st := s_need_setting) lp9 cp9 kp9
  have Bp9 : Binds K _ ["sizes", "value"] [] := Fp9.binds (ps := ["sizes", "value"]) fun _ _ _ _ _ _ us hl => match us, hl with | [_, _], _ => rfl
  have Dp9 : Df K mg "need_setting" s_need_setting fp9 _ ["sizes", "value"] := ⟨Fp9, PySem.W.mg_of X G ap9, Bp9⟩
  have Fp10 := fun_mk (st := s_lot_sizes) lp10 cp10 kp10
  have Bp10 : Binds K _ ["board", "lot"] [] := Fp10.binds (ps := ["board", "lot"]) fun _ _ _ _ _ _ us hl => match us, hl with | [_, _], _ => rfl
  have Dp10 : Df K mg "lot_sizes" s_lot_sizes fp10 _ ["board", "lot"] := ⟨Fp10, PySem.W.mg_of X G ap10, Bp10⟩
  have Fp11 := fun_mk (st := s_all_settings) lp11 cp11 kp11
  have Bp11 : Binds K _ ["sizes"] [] := Fp11.binds (ps := ["sizes"]) fun _ _ _ _ _ _ us hl => match us, hl with | [_], _ => rfl
  have Dp11 : Df K mg "all_settings" s_all_settings fp11 _ ["sizes"] := ⟨Fp11, PySem.W.mg_of X G ap11, Bp11⟩
  have Fp12 := fun_mk (st := s_need_lot) lp12 cp12 kp12
  have Bp12 : Binds K _ ["board", "value"] [] := Fp12.binds (ps := ["board", "value"]) fun _ _ _ _ _ _ us hl => match us, hl with | [_, _], _ => rfl
  have Dp12 : Df K mg "need_lot" s_need_lot fp12 _ ["board", "value"] := ⟨Fp12, PySem.W.mg_of X G ap12, Bp12⟩
  have Fp13 := fun_mk (st := s_rest_of) lp13 cp13 kp13
  have Bp13 : Binds K _ ["board", "lot"] [] := Fp13.binds (ps := ["board", "lot"]) fun _ _ _ _ _ _ us hl => match us, hl with | [_, _], _ => rfl
  have Dp13 : Df K mg "rest_of" s_rest_of fp13 _ ["board", "lot"] := ⟨Fp13, PySem.W.mg_of X G ap13, Bp13⟩
  have Fp14 := fun_mk (st := s_lot_contents) lp14 cp14 kp14
  have Bp14 : Binds K _ ["board", "lot"] [] := Fp14.binds (ps := ["board", "lot"]) fun _ _ _ _ _ _ us hl => match us, hl with | [_, _], _ => rfl
  have Dp14 : Df K mg "lot_contents" s_lot_contents fp14 _ ["board", "lot"] := ⟨Fp14, PySem.W.mg_of X G ap14, Bp14⟩
  have Fp15 := fun_mk (st := s_lot_step) lp15 cp15 kp15
  have Bp15 : Binds K _ ["board", "lot", "contents"] [] := Fp15.binds (ps := ["board", "lot", "contents"]) fun _ _ _ _ _ _ us hl => match us, hl with | [_, _, _], _ => rfl
  have Dp15 : Df K mg "lot_step" s_lot_step fp15 _ ["board", "lot", "contents"] := ⟨Fp15, PySem.W.mg_of X G ap15, Bp15⟩
  have Fp16 := fun_mk (st := s_lot_marks) lp16 cp16 kp16
  have Bp16 : Binds K _ ["board", "lot"] [] := Fp16.binds (ps := ["board", "lot"]) fun _ _ _ _ _ _ us hl => match us, hl with | [_, _], _ => rfl
  have Dp16 : Df K mg "lot_marks" s_lot_marks fp16 _ ["board", "lot"] := ⟨Fp16, PySem.W.mg_of X G ap16, Bp16⟩
  have Fp17 := fun_mk (st := s__law_draw) lp17 cp17 kp17
  have Bp17 : Binds K _ ["deal", "bound"] [] := Fp17.binds (ps := ["deal", "bound"]) fun _ _ _ _ _ _ us hl => match us, hl with | [_, _], _ => rfl
  have Dp17 : Df K mg "_law_draw" s__law_draw fp17 _ ["deal", "bound"] := ⟨Fp17, PySem.W.mg_of X G ap17, Bp17⟩
  have Fp18 := fun_mk (st := s__law_pick) lp18 cp18 kp18
  have Bp18 : Binds K _ ["deal", "some"] [] := Fp18.binds (ps := ["deal", "some"]) fun _ _ _ _ _ _ us hl => match us, hl with | [_, _], _ => rfl
  have Dp18 : Df K mg "_law_pick" s__law_pick fp18 _ ["deal", "some"] := ⟨Fp18, PySem.W.mg_of X G ap18, Bp18⟩
  have Fp19 := fun_mk (st := s__law_mixed) lp19 cp19 kp19
  have Bp19 : Binds K _ ["deal", "things"] [] := Fp19.binds (ps := ["deal", "things"]) fun _ _ _ _ _ _ us hl => match us, hl with | [_, _], _ => rfl
  have Dp19 : Df K mg "_law_mixed" s__law_mixed fp19 _ ["deal", "things"] := ⟨Fp19, PySem.W.mg_of X G ap19, Bp19⟩
  have Fp20 := fun_mk (st := s__law_deal) lp20 cp20 kp20
  have Bp20 : Binds K _ ["script", "base"] [] := Fp20.binds (ps := ["script", "base"]) fun _ _ _ _ _ _ us hl => match us, hl with | [_, _], _ => rfl
  have Dp20 : Df K mg "_law_deal" s__law_deal fp20 _ ["script", "base"] := ⟨Fp20, PySem.W.mg_of X G ap20, Bp20⟩
  have Fp21 := fun_mk (st := s_first_twice) lp21 cp21 kp21
  have Bp21 : Binds K _ ["board", "part"] [] := Fp21.binds (ps := ["board", "part"]) fun _ _ _ _ _ _ us hl => match us, hl with | [_, _], _ => rfl
  have Dp21 : Df K mg "first_twice" s_first_twice fp21 _ ["board", "part"] := ⟨Fp21, PySem.W.mg_of X G ap21, Bp21⟩
  have Fp22 := fun_mk (st := s_fair_fault) lp22 cp22 kp22
  have Bp22 : Binds K _ ["board"] [] := Fp22.binds (ps := ["board"]) fun _ _ _ _ _ _ us hl => match us, hl with | [_], _ => rfl
  have Dp22 : Df K mg "fair_fault" s_fair_fault fp22 _ ["board"] := ⟨Fp22, PySem.W.mg_of X G ap22, Bp22⟩
  have Fp23 := fun_mk (st := s_need_fair) lp23 cp23 kp23
  have Bp23 : Binds K _ ["board"] [] := Fp23.binds (ps := ["board"]) fun _ _ _ _ _ _ us hl => match us, hl with | [_], _ => rfl
  have Dp23 : Df K mg "need_fair" s_need_fair fp23 _ ["board"] := ⟨Fp23, PySem.W.mg_of X G ap23, Bp23⟩
  have Fp24 := fun_mk (st := s__law_settings) lp24 cp24 kp24
  have Bp24 : Binds K _ ["many", "size"] [] := Fp24.binds (ps := ["many", "size"]) fun _ _ _ _ _ _ us hl => match us, hl with | [_, _], _ => rfl
  have Dp24 : Df K mg "_law_settings" s__law_settings fp24 _ ["many", "size"] := ⟨Fp24, PySem.W.mg_of X G ap24, Bp24⟩
  have Fp25 := fun_mk (st := s__law_number) lp25 cp25 kp25
  have Bp25 : Binds K _ ["many", "setting"] [] := Fp25.binds (ps := ["many", "setting"]) fun _ _ _ _ _ _ us hl => match us, hl with | [_, _], _ => rfl
  have Dp25 : Df K mg "_law_number" s__law_number fp25 _ ["many", "setting"] := ⟨Fp25, PySem.W.mg_of X G ap25, Bp25⟩
  have Fp26 := fun_mk (st := s__law_bends) lp26 cp26 kp26
  have Bp26 : Binds K _ ["deal", "size"] [] := Fp26.binds (ps := ["deal", "size"]) fun _ _ _ _ _ _ us hl => match us, hl with | [_, _], _ => rfl
  have Dp26 : Df K mg "_law_bends" s__law_bends fp26 _ ["deal", "size"] := ⟨Fp26, PySem.W.mg_of X G ap26, Bp26⟩
  have Fp27 := fun_mk (st := s__law_two_bits) lp27 cp27 kp27
  have Bp27 : Binds K _ ["deal", "size"] [] := Fp27.binds (ps := ["deal", "size"]) fun _ _ _ _ _ _ us hl => match us, hl with | [_, _], _ => rfl
  have Dp27 : Df K mg "_law_two_bits" s__law_two_bits fp27 _ ["deal", "size"] := ⟨Fp27, PySem.W.mg_of X G ap27, Bp27⟩
  have Fp28 := fun_mk (st := s__law_times) lp28 cp28 kp28
  have Bp28 : Binds K _ ["many", "one", "other"] [] := Fp28.binds (ps := ["many", "one", "other"]) fun _ _ _ _ _ _ us hl => match us, hl with | [_, _, _], _ => rfl
  have Dp28 : Df K mg "_law_times" s__law_times fp28 _ ["many", "one", "other"] := ⟨Fp28, PySem.W.mg_of X G ap28, Bp28⟩
  have Fp29 := fun_mk (st := s__law_products) lp29 cp29 kp29
  have Bp29 : Binds K _ ["deal", "many"] [] := Fp29.binds (ps := ["deal", "many"]) fun _ _ _ _ _ _ us hl => match us, hl with | [_, _], _ => rfl
  have Dp29 : Df K mg "_law_products" s__law_products fp29 _ ["deal", "many"] := ⟨Fp29, PySem.W.mg_of X G ap29, Bp29⟩
  have Fp30 := fun_mk (st := s__law_board) lp30 cp30 kp30
  have Bp30 : Binds K _ ["deal"] [] := Fp30.binds (ps := ["deal"]) fun _ _ _ _ _ _ us hl => match us, hl with | [_], _ => rfl
  have Dp30 : Df K mg "_law_board" s__law_board fp30 _ ["deal"] := ⟨Fp30, PySem.W.mg_of X G ap30, Bp30⟩
  have Fp31 := fun_mk (st := s__law_spoilt) lp31 cp31 kp31
  have Bp31 : Binds K _ ["deal", "many", "size", "marks"] [] := Fp31.binds (ps := ["deal", "many", "size", "marks"]) fun _ _ _ _ _ _ us hl => match us, hl with | [_, _, _, _], _ => rfl
  have Dp31 : Df K mg "_law_spoilt" s__law_spoilt fp31 _ ["deal", "many", "size", "marks"] := ⟨Fp31, PySem.W.mg_of X G ap31, Bp31⟩
  have Fp32 := fun_mk (st := s__law_is_refused) lp32 cp32 kp32
  have Bp32 : Binds K _ ["work"] [] := Fp32.binds (ps := ["work"]) fun _ _ _ _ _ _ us hl => match us, hl with | [_], _ => rfl
  have Dp32 : Df K mg "_law_is_refused" s__law_is_refused fp32 _ ["work"] := ⟨Fp32, PySem.W.mg_of X G ap32, Bp32⟩
  have Fp33 := fun_mk (st := s__law_places) lp33 cp33 kp33
  have Bp33 : Binds K _ ["many", "size", "lot"] [] := Fp33.binds (ps := ["many", "size", "lot"]) fun _ _ _ _ _ _ us hl => match us, hl with | [_, _, _], _ => rfl
  have Dp33 : Df K mg "_law_places" s__law_places fp33 _ ["many", "size", "lot"] := ⟨Fp33, PySem.W.mg_of X G ap33, Bp33⟩
  have Fp34 := fun_mk (st := s__law_is_tested) lp34 cp34 kp34
  have Bp34 : Binds K _ ["many", "size", "marks", "lot"] [] := Fp34.binds (ps := ["many", "size", "marks", "lot"]) fun _ _ _ _ _ _ us hl => match us, hl with | [_, _, _, _], _ => rfl
  have Dp34 : Df K mg "_law_is_tested" s__law_is_tested fp34 _ ["many", "size", "marks", "lot"] := ⟨Fp34, PySem.W.mg_of X G ap34, Bp34⟩
  have Fp35 := fun_mk (st := s__law_lots) lp35 cp35 kp35
  have Bp35 : Binds K _ ["many"] [] := Fp35.binds (ps := ["many"]) fun _ _ _ _ _ _ us hl => match us, hl with | [_], _ => rfl
  have Dp35 : Df K mg "_law_lots" s__law_lots fp35 _ ["many"] := ⟨Fp35, PySem.W.mg_of X G ap35, Bp35⟩
  have Fp36 := fun_mk (st := s__law_wrong) lp36 cp36 kp36
  have Bp36 : Binds K _ ["work"] [] := Fp36.binds (ps := ["work"]) fun _ _ _ _ _ _ us hl => match us, hl with | [_], _ => rfl
  have Dp36 : Df K mg "_law_wrong" s__law_wrong fp36 _ ["work"] := ⟨Fp36, PySem.W.mg_of X G ap36, Bp36⟩
  have Fp37 := fun_mk (st := s_differing_places) lp37 cp37 kp37
  have Bp37 : Binds K _ ["one", "other"] [] := Fp37.binds (ps := ["one", "other"]) fun _ _ _ _ _ _ us hl => match us, hl with | [_, _], _ => rfl
  have Dp37 : Df K mg "differing_places" s_differing_places fp37 _ ["one", "other"] := ⟨Fp37, PySem.W.mg_of X G ap37, Bp37⟩
  have Fp38 := fun_mk (st := s_full_change) lp38 cp38 kp38
  have Bp38 : Binds K _ ["one", "other"] [] := Fp38.binds (ps := ["one", "other"]) fun _ _ _ _ _ _ us hl => match us, hl with | [_, _], _ => rfl
  have Dp38 : Df K mg "full_change" s_full_change fp38 _ ["one", "other"] := ⟨Fp38, PySem.W.mg_of X G ap38, Bp38⟩
  have Fp39 := fun_mk (st := s_full_no) lp39 cp39 kp39
  have Bp39 : Binds K _ ["board", "lot"] [] := Fp39.binds (ps := ["board", "lot"]) fun _ _ _ _ _ _ us hl => match us, hl with | [_, _], _ => rfl
  have Dp39 : Df K mg "full_no" s_full_no fp39 _ ["board", "lot"] := ⟨Fp39, PySem.W.mg_of X G ap39, Bp39⟩
  have Fp40 := fun_mk (st := s__law_laid) lp40 cp40 kp40
  have Bp40 : Binds K _ ["size", "lot", "inside", "outside"] [] := Fp40.binds (ps := ["size", "lot", "inside", "outside"]) fun _ _ _ _ _ _ us hl => match us, hl with | [_, _, _, _], _ => rfl
  have Dp40 : Df K mg "_law_laid" s__law_laid fp40 _ ["size", "lot", "inside", "outside"] := ⟨Fp40, PySem.W.mg_of X G ap40, Bp40⟩
  have Fp41 := fun_mk (st := s__law_is_contents) lp41 cp41 kp41
  have Bp41 : Binds K _ ["value", "many", "size"] [] := Fp41.binds (ps := ["value", "many", "size"]) fun _ _ _ _ _ _ us hl => match us, hl with | [_, _, _], _ => rfl
  have Dp41 : Df K mg "_law_is_contents" s__law_is_contents fp41 _ ["value", "many", "size"] := ⟨Fp41, PySem.W.mg_of X G ap41, Bp41⟩
  have Fp42 := fun_mk (st := s__law_same) lp42 cp42 kp42
  have Bp42 : Binds K _ ["many", "size", "marks", "lot", "deal"] [] := Fp42.binds (ps := ["many", "size", "marks", "lot", "deal"]) fun _ _ _ _ _ _ us hl => match us, hl with | [_, _, _, _, _], _ => rfl
  have Dp42 : Df K mg "_law_same" s__law_same fp42 _ ["many", "size", "marks", "lot", "deal"] := ⟨Fp42, PySem.W.mg_of X G ap42, Bp42⟩
  have Fp43 := fun_mk (st := s__law_holds) lp43 cp43 kp43
  have Bp43 : Binds K _ ["many", "size", "marks", "lot", "no"] [] := Fp43.binds (ps := ["many", "size", "marks", "lot", "no"]) fun _ _ _ _ _ _ us hl => match us, hl with | [_, _, _, _, _], _ => rfl
  have Dp43 : Df K mg "_law_holds" s__law_holds fp43 _ ["many", "size", "marks", "lot", "no"] := ⟨Fp43, PySem.W.mg_of X G ap43, Bp43⟩
  have Cp44 : DL.FunC K "law" "law" s_law fa _ cop44 := ⟨⟨ocp44, odp44, kVp44, dcp44, pmp44, anp44, ctp44, slp44, rfl, lp44, cp44⟩, kp44⟩
  have Fp44 := Cp44.fun
  have Bp44 : Binds K _ ["script"] [] := Fp44.binds (ps := ["script"]) fun _ _ _ _ _ _ us hl => match us, hl with | [_], _ => rfl
  have DCp44 : DL.DfC K mg "law" s_law fa _ cop44 ["script"] := ⟨Cp44, PySem.W.mg_of X G ap44, Bp44⟩
  have Dp44 : Df K mg "law" s_law fa _ ["script"] := ⟨Fp44, PySem.W.mg_of X G ap44, Bp44⟩
  have Fm0 := fun_mk (st := s_Board_init) lm0 cm0 km0
  have Bm0 : Binds K _ ["self", "many", "sizes", "marks"] [] := Fm0.binds (ps := ["self", "many", "sizes", "marks"]) fun _ _ _ _ _ _ us hl => match us, hl with | [_, _, _, _], _ => rfl
  have Fm1 := fun_mk (st := s_Board_eq) lm1 cm1 km1
  have Bm1 : Binds K _ ["self", "other"] [] := Fm1.binds (ps := ["self", "other"]) fun _ _ _ _ _ _ us hl => match us, hl with | [_, _], _ => rfl
  have Fm2 := fun_mk (st := s_Board_len) lm2 cm2 km2
  have Bm2 : Binds K _ ["self"] [] := Fm2.binds (ps := ["self"]) fun _ _ _ _ _ _ us hl => match us, hl with | [_], _ => rfl
  have Fm3 := fun_mk (st := s_Board_call) lm3 cm3 km3
  have Bm3 : Binds K _ ["self", "setting"] [] := Fm3.binds (ps := ["self", "setting"]) fun _ _ _ _ _ _ us hl => match us, hl with | [_, _], _ => rfl
  have Fx0 := fun_mk (st := s_InvalidBoard_init) lx0 cx0 kx0
  have Bx0 : Binds K _ ["self", "at"] [] := Fx0.binds (ps := ["self", "at"]) fun _ _ _ _ _ _ us hl => match us, hl with | [_, _], _ => rfl
  have Oe0 : Err.Oex K C_InvalidBoard := ⟨⟨nm0, q0, N0, bs0, _, sn0, sub0, ab0, col0, dd0, m00, m01, m02, m03, m05, xX0, rfl⟩, saX0, eX0, yX0, kX0⟩
  have Ei0 : ExI K C_InvalidBoard := ⟨iX0, gaX0, ggX0, eX0, cX0, hnC, tkC, mX0⟩
  have Fx1 := fun_mk (st := s_InvalidSetting_init) lx1 cx1 kx1
  have Bx1 : Binds K _ ["self", "at"] [] := Fx1.binds (ps := ["self", "at"]) fun _ _ _ _ _ _ us hl => match us, hl with | [_, _], _ => rfl
  have Oe1 : Err.Oex K C_InvalidSetting := ⟨⟨nm1, q1, N1, bs1, _, sn1, sub1, ab1, col1, dd1, m10, m11, m12, m13, m15, xX1, rfl⟩, saX1, eX1, yX1, kX1⟩
  have Ei1 : ExI K C_InvalidSetting := ⟨iX1, gaX1, ggX1, eX1, cX1, hnC, tkC, mX1⟩
  have Fx2 := fun_mk (st := s_InvalidSize_init) lx2 cx2 kx2
  have Bx2 : Binds K _ ["self", "word"] [] := Fx2.binds (ps := ["self", "word"]) fun _ _ _ _ _ _ us hl => match us, hl with | [_, _], _ => rfl
  have Oe2 : Err.Oex K C_InvalidSize := ⟨⟨nm2, q2, N2, bs2, _, sn2, sub2, ab2, col2, dd2, m20, m21, m22, m23, m25, xX2, rfl⟩, saX2, eX2, yX2, kX2⟩
  have Ei2 : ExI K C_InvalidSize := ⟨iX2, gaX2, ggX2, eX2, cX2, hnC, tkC, mX2⟩
  have Fx3 := fun_mk (st := s_Refused_init) lx3 cx3 kx3
  have Bx3 : Binds K _ ["self", "at"] [] := Fx3.binds (ps := ["self", "at"]) fun _ _ _ _ _ _ us hl => match us, hl with | [_, _], _ => rfl
  have Oe3 : Err.Oex K C_Refused := ⟨⟨nm3, q3, N3, bs3, _, sn3, sub3, ab3, col3, dd3, m30, m31, m32, m33, m35, xX3, rfl⟩, saX3, eX3, yX3, kX3⟩
  have Ei3 : ExI K C_Refused := ⟨iX3, gaX3, ggX3, eX3, cX3, hnC, tkC, mX3⟩
  have Fx4 := fun_mk (st := s_InvalidLot_init) lx4 cx4 kx4
  have Bx4 : Binds K _ ["self", "at"] [] := Fx4.binds (ps := ["self", "at"]) fun _ _ _ _ _ _ us hl => match us, hl with | [_, _], _ => rfl
  have Oe4 : Err.Oex K C_InvalidLot := ⟨⟨nm4, q4, N4, bs4, _, sn4, sub4, ab4, col4, dd4, m40, m41, m42, m43, m45, xX4, rfl⟩, saX4, eX4, yX4, kX4⟩
  have Ei4 : ExI K C_InvalidLot := ⟨iX4, gaX4, ggX4, eX4, cX4, hnC, tkC, mX4⟩
  have Z : Zs mg := ⟨PySem.W.mg_none_of X G z_isi, PySem.W.mg_none_of X G z_int, PySem.W.mg_none_of X G z_tup, PySem.W.mg_none_of X G z_lst, PySem.W.mg_none_of X G z_sorted, PySem.W.mg_none_of X G z_all, PySem.W.mg_none_of X G z_any, PySem.W.mg_none_of X G z_enum, PySem.W.mg_none_of X G z_rng, PySem.W.mg_none_of X G z_len, PySem.W.mg_none_of X G z_abs, PySem.W.mg_none_of X G z_min, PySem.W.mg_none_of X G z_max, PySem.W.mg_none_of X G z_zip, PySem.W.mg_none_of X G z_bool, PySem.W.mg_none_of X G z_str, PySem.W.mg_none_of X G z_repr, PySem.W.mg_none_of X G z_sum, PySem.W.mg_none_of X G z_rev, PySem.W.mg_none_of X G z_set⟩
  have cB : Cls K C_Board := ⟨pgB, hdB, poB, saB⟩
  have iB : ClsI K C_Board := ⟨cB, haB, hnC, tkC, mrB, kitB, fun T h => by
    simp only [List.mem_cons, List.not_mem_nil, or_false] at h
    rcases h with rfl | rfl | rfl | rfl | rfl | rfl <;> assumption, fun T h => by
    simp only [List.mem_cons, List.not_mem_nil, or_false] at h
    rcases h with rfl | rfl | rfl | rfl | rfl <;> assumption⟩
  have qB : ClsQ K C_Board := ⟨iB, fun T h => by
    simp only [List.mem_cons, List.not_mem_nil, or_false] at h
    rcases h with rfl | rfl | rfl | rfl | rfl | rfl <;> assumption, nf_self⟩
  have eB : ClsE K C_Board fm1 := ⟨⟨_, _, _, _, _, _, _, _, _, _, _, _, _, _, _, xBo, _, esB, epB, xNB, rfl, strKeys_of skB, feB, fnB⟩, _, lm1, rfl⟩
  obtain ⟨P2p44, hCp44, hPp44⟩ := hTab "law" (by simp) fa cop44 _ _ (PySem.W.mg_of X G ap44) lp44 rfl rfl
  obtain ⟨oop44, usp44, _, _, _, _, _, _, _, e1p44, _, e3p44, e4p44, _⟩ := id hCp44
  rw [X _ _ lCp44] at e1p44
  cases e1p44
  cases e3p44
  rw [vPp44] at e4p44
  cases e4p44
  refine ⟨_, [(cop44, Pp44)], (sp_law Pp44), fun p hp => ?hT, fun p hp => ?nT, fun p hp => ?hC, Bp44, fun a ns pa hl _ => ?hs, fun base _ _ hB => ?F⟩
  case hT =>
    rcases (by simpa using hp : p = (cop44, Pp44)) with rfl
    · exact hPp44
  case nT =>
    rcases (by simpa using hp : p = (cop44, Pp44)) with rfl
    · exact nPp44
  case hC =>
    rcases (by simpa using hp : p = (cop44, Pp44)) with rfl
    · exact hCp44
  case hs => exact ⟨a, ns, rfl, if_pos rfl, Nat.le_trans hl (by decide), fun p hp => by rw [List.mem_singleton.mp hp]; exact scT_tab (by simp) (pa (cop44, Pp44) (by simp)), fun _ => rfl⟩
  case F =>
    have T_Tb : Tb l.prog w K mg base C_Board C_BoardError C_InvalidBoard C_InvalidSetting C_InvalidSize := { c_MOST_PARTS := ⟨tP, PySem.W.mg_of X G kP⟩, c_MOST_SETTINGS := ⟨tS, PySem.W.mg_of X G kS⟩, x_InvalidBoard := ⟨PySem.W.mg_of X G aX0, Oe0, naX0, ⟨_, _, ax0, tX0, okx_InvalidBoard_init Fx0, Bx0⟩, ⟨gaX0, ggX0, eX0, hX0⟩⟩, x_InvalidSetting := ⟨PySem.W.mg_of X G aX1, Oe1, naX1, ⟨_, _, ax1, tX1, okx_InvalidSetting_init Fx1, Bx1⟩, ⟨gaX1, ggX1, eX1, hX1⟩⟩, x_InvalidSize := ⟨PySem.W.mg_of X G aX2, Oe2, naX2, ⟨_, _, ax2, tX2, okx_InvalidSize_init Fx2, Bx2⟩, ⟨gaX2, ggX2, eX2, hX2⟩⟩, e_InvalidBoard := Ei0, e_InvalidSetting := Ei1, e_InvalidSize := Ei2, n_BoardError := PySem.W.mg_of X G aBE, n_InvalidBoard := PySem.W.mg_of X G aX0, n_ValueError := PySem.W.mg_none_of X G zV, is_InvalidSize_BoardError := is_InvalidSize_BoardError, is_InvalidSize_InvalidBoard := is_InvalidSize_InvalidBoard, is_InvalidBoard_BoardError := is_InvalidBoard_BoardError, is_InvalidBoard_ValueError := is0V, is_InvalidSetting_BoardError := is_InvalidSetting_BoardError, ex_ZZ := PySem.W.exm_ref eX2 hX2 yX2 sub_InvalidSize_InvalidSize, ex_BZ := PySem.W.exm_ref eX2 hX2 yX2 sub_InvalidBoard_InvalidSize, ex_BB := PySem.W.exm_ref eX0 hX0 yX0 sub_InvalidBoard_InvalidBoard, ex_SS := PySem.W.exm_ref eX1 hX1 yX1 sub_InvalidSetting_InvalidSetting, g_Board := PySem.W.mg_of X G aBo, i_Board := iB, na_many := na_many, na_sizes := na_sizes, na_marks := na_marks, na_steps := na_steps }
    have Q_is_integer := ok_is_integer (P₀ := l.prog) (w := w) (base := base) (Dd := Dp0) (Z := Z)
    have Q_is_below := ok_is_below (P₀ := l.prog) (w := w) (base := base) (Dd := Dp1) (Z := Z) (G_is_integer := Q_is_integer)
    have Q_is_between := ok_is_between (P₀ := l.prog) (w := w) (base := base) (Dd := Dp2) (Z := Z) (G_is_integer := Q_is_integer)
    have Q_is_sequence := ok_is_sequence (P₀ := l.prog) (w := w) (base := base) (Dd := Dp3) (Z := Z)
    have Q_product_of := ok_product_of (P₀ := l.prog) (w := w) (base := base) (Dd := Dp4) (Z := Z)
    have Q_wrong_place := ok_wrong_place (P₀ := l.prog) (w := w) (base := base) (Dd := Dp5) (Z := Z) (G_is_sequence := Q_is_sequence) (G_is_below := Q_is_below)
    have Q_need_setting := ok_nset (P₀ := l.prog) (w := w) (base := base) (Dd := Dp9) (Z := Z) (T := T_Tb) (G_wrong_place := Q_wrong_place)
    have Q_wrong_size := ok_wrong_size (P₀ := l.prog) (w := w) (base := base) (Dd := Dp6) (Z := Z) (T := T_Tb) (G_is_sequence := Q_is_sequence) (G_is_integer := Q_is_integer)
    have Qf_setting_number := ok_setting_number (P₀ := l.prog) (w := w) (base := base) (Dd := Dp7) (Z := Z)
    have Q_setting_number : Cal l.prog w K mg base "setting_number" 1 sp_setting_number := ⟨_, _, _, Qf_setting_number, Dp7.g, Dp7.F.kp, Dp7.b⟩
    have Q_steps_of := ok_steps_of (P₀ := l.prog) (w := w) (base := base) (Dd := Dp8) (Z := Z) (G_product_of := Q_product_of)
    have FI := ok_init Fm0 Z T_Tb Q_is_between Q_wrong_size Q_product_of Q_wrong_place Q_steps_of
    have FE := ok_eq Fm1 Z T_Tb
    have FL := ok_len Fm2 Z T_Tb
    have FC := ok_call Fm3 Z T_Tb Q_need_setting Q_setting_number
    have T_Bo : Bo l.prog w K mg base C_Board C_BoardError C_InvalidBoard C_InvalidSetting C_InvalidSize := { T_Tb with
      k_Board := ⟨PySem.W.mg_of X G aBo, _, _, _, FI, ⟨mkB, am0, im0, kpB⟩, Bm0⟩
      kk_Board := ⟨PySem.W.mg_of X G aBo, _, _, _, FI, ⟨mkB, am0, im0, kpB⟩, kw_board Fm0⟩
      q_Board := qB
      eq := ⟨_, _, _, FE, ⟨am1, im1, km1⟩, Bm1⟩
      ne := ⟨_, _, _, FE, eB, Bm1⟩
      len := ⟨_, _, _, FL, ⟨am2, im2, km2⟩, Bm2⟩
      call := ⟨_, _, _, FC, ⟨am3, im3, km3⟩, Bm3⟩
      callfn := fun g h => by
        have e := h.at_.symm.trans am3
        cases e
        exact fnCall }
    have T_Tc : Tc l.prog w K mg base C_Board C_InvalidSize := ⟨T_Tb.c_MOST_PARTS, T_Tb.c_MOST_SETTINGS, T_Tb.x_InvalidSize, T_Tb.i_Board, T_Tb.na_many, T_Tb.na_sizes, T_Tb.na_marks, T_Tb.na_steps, T_Bo.len⟩
    have T_Tr : Tr l.prog w K mg base C_Refused := ⟨⟨PySem.W.mg_of X G aX3, Oe3, naX3, ⟨_, _, ax3, tX3, okx_Refused_init Fx3, Bx3⟩, ⟨gaX3, ggX3, eX3, hX3⟩⟩, PySem.W.exm_ref eX3 hX3 yX3 sub_Refused_Refused⟩
    have T_Tl : Tl l.prog w K mg base C_Board C_BoardError C_InvalidLot := ⟨⟨PySem.W.mg_of X G aX4, Oe4, naX4, ⟨_, _, ax4, tX4, okx_InvalidLot_init Fx4, Bx4⟩, ⟨gaX4, ggX4, eX4, hX4⟩⟩, Ei4, PySem.W.mg_of X G aBE, PySem.W.mg_none_of X G zV, is_InvalidLot_BoardError, isLV, PySem.W.exm_ref eX4 hX4 yX4 sub_InvalidLot_InvalidLot, T_Bo.len⟩
    have Q_lot_sizes := ok_lsz (P₀ := l.prog) (w := w) (base := base) (Dd := Dp10) (Z := Z) (T := T_Tc)
    have Qf_all_settings := ok_alls (P₀ := l.prog) (w := w) (base := base) (Dd := Dp11) (Z := Z)
    have Q_all_settings : Cal l.prog w K mg base "all_settings" 1 sp_alls := ⟨_, _, _, Qf_all_settings, Dp11.g, Dp11.F.kp, Dp11.b⟩
    have Qf_need_lot := ok_nlot (P₀ := l.prog) (w := w) (base := base) (Dd := Dp12) (Z := Z) (T := T_Tl) (G_is_sequence := Q_is_sequence) (G_is_below := Q_is_below)
    have Q_need_lot : Cal l.prog w K mg base "need_lot" 4 (sp_nlot K C_Board C_InvalidLot) := ⟨_, _, _, Qf_need_lot, Dp12.g, Dp12.F.kp, Dp12.b⟩
    have Qf_rest_of := ok_rest (P₀ := l.prog) (w := w) (base := base) (Dd := Dp13) (Z := Z) (T := T_Tc)
    have Q_rest_of : Cal l.prog w K mg base "rest_of" 3 (sp_rest C_Board) := ⟨_, _, _, Qf_rest_of, Dp13.g, Dp13.F.kp, Dp13.b⟩
    have Qf_lot_contents := ok_cont (P₀ := l.prog) (w := w) (base := base) (Dd := Dp14) (Z := Z) (G_all_settings := Q_all_settings) (G_lot_sizes := Q_lot_sizes)
    have Q_lot_contents : Cal l.prog w K mg base "lot_contents" 2 (sp_cont C_Board) := ⟨_, _, _, Qf_lot_contents, Dp14.g, Dp14.F.kp, Dp14.b⟩
    have Q_lot_step := ok_lstep (P₀ := l.prog) (w := w) (base := base) (Dd := Dp15) (Z := Z) (T := T_Tc)
    have Qf_lot_marks := ok_lmarks (P₀ := l.prog) (w := w) (base := base) (Dd := Dp16) (Z := Z) (T := T_Tc) (G_rest_of := Q_rest_of) (G_lot_step := Q_lot_step) (G_lot_contents := Q_lot_contents)
    have Q_lot_marks : Cal l.prog w K mg base "lot_marks" 4 (sp_lmarks C_Board) := ⟨_, _, _, Qf_lot_marks, Dp16.g, Dp16.F.kp, Dp16.b⟩
    have Q__law_draw := ok_draw (P₀ := l.prog) (w := w) (base := base) (Dd := Dp17) (Z := Z)
    have Q__law_pick := ok_lpick (P₀ := l.prog) (w := w) (base := base) (Dd := Dp18) (Z := Z) (G__law_draw := Q__law_draw)
    have Q__law_mixed := ok_mixed (P₀ := l.prog) (w := w) (base := base) (Dd := Dp19) (Z := Z) (G__law_draw := Q__law_draw)
    have Q__law_deal := ok_deal (P₀ := l.prog) (w := w) (base := base) (Dd := Dp20) (Z := Z)
    have Q_first_twice := ok_ft (P₀ := l.prog) (w := w) (base := base) (Dd := Dp21) (Z := Z) (T := T_Tc) (G_all_settings := Q_all_settings)
    have Q_fair_fault := ok_ff (P₀ := l.prog) (w := w) (base := base) (Dd := Dp22) (Z := Z) (T := T_Tc) (G_first_twice := Q_first_twice)
    have Qf_need_fair := ok_nf (P₀ := l.prog) (w := w) (base := base) (Dd := Dp23) (Z := Z) (T := T_Tr) (G_fair_fault := Q_fair_fault)
    have Q_need_fair : Cal l.prog w K mg base "need_fair" 4 (sp_nf C_Board C_Refused) := ⟨_, _, _, Qf_need_fair, Dp23.g, Dp23.F.kp, Dp23.b⟩
    have Q__law_settings := ok_lset (P₀ := l.prog) (w := w) (base := base) (Dd := Dp24) (Z := Z)
    have Q__law_number := ok_lnum (P₀ := l.prog) (w := w) (base := base) (Dd := Dp25) (Z := Z)
    have Q__law_bends := ok_bends (P₀ := l.prog) (w := w) (base := base) (Dd := Dp26) (Z := Z) (G__law_draw := Q__law_draw) (G__law_pick := Q__law_pick) (G__law_mixed := Q__law_mixed) (G__law_settings := Q__law_settings)
    have Q__law_two_bits := ok_twobits (P₀ := l.prog) (w := w) (base := base) (Dd := Dp27) (Z := Z) (G__law_mixed := Q__law_mixed) (G__law_settings := Q__law_settings) (G__law_bends := Q__law_bends)
    have Q__law_times := ok_times (P₀ := l.prog) (w := w) (base := base) (Dd := Dp28) (Z := Z)
    have Q__law_products := ok_prods (P₀ := l.prog) (w := w) (base := base) (Dd := Dp29) (Z := Z) (G__law_draw := Q__law_draw) (G__law_mixed := Q__law_mixed) (G__law_settings := Q__law_settings) (G__law_times := Q__law_times)
    have Q__law_board := ok_board (P₀ := l.prog) (w := w) (base := base) (Dd := Dp30) (Z := Z) (G__law_draw := Q__law_draw) (G__law_pick := Q__law_pick) (G__law_mixed := Q__law_mixed) (G__law_settings := Q__law_settings) (G__law_two_bits := Q__law_two_bits) (G__law_products := Q__law_products)
    have Q__law_spoilt := ok_lspoil (P₀ := l.prog) (w := w) (base := base) (Dd := Dp31) (Z := Z) (T := T_Bo) (G__law_draw := Q__law_draw)
    have Q__law_is_refused := ok_isref (P₀ := l.prog) (w := w) (base := base) (Dd := Dp32) (T := T_Tr) (k := 7)
    have Q__law_places := ok_plc (P₀ := l.prog) (w := w) (base := base) (Dd := Dp33) (Z := Z)
    have Q__law_is_tested := ok_ltst (P₀ := l.prog) (w := w) (base := base) (Dd := Dp34) (Z := Z) (G__law_places := Q__law_places)
    have Q__law_lots := ok_llots (P₀ := l.prog) (w := w) (base := base) (Dd := Dp35) (Z := Z)
    have Q__law_wrong := ok_lwr (P₀ := l.prog) (w := w) (base := base) (Dd := Dp36) (Z := Z) (T := T_Tl) (k := 7)
    have Q_differing_places := ok_dif (P₀ := l.prog) (w := w) (base := base) (Dd := Dp37) (Z := Z)
    have Q_full_change := ok_fch (P₀ := l.prog) (w := w) (base := base) (Dd := Dp38) (Z := Z) (G_differing_places := Q_differing_places)
    have Qf_full_no := ok_fno (P₀ := l.prog) (w := w) (base := base) (Dd := Dp39) (Z := Z) (G_need_fair := Q_need_fair) (G_need_lot := Q_need_lot) (G_lot_marks := Q_lot_marks) (G_lot_contents := Q_lot_contents) (G_differing_places := Q_differing_places) (G_full_change := Q_full_change) (G_rest_of := Q_rest_of)
    have Q_full_no : Cal l.prog w K mg base "full_no" 7 (sp_fno K C_Board C_InvalidLot C_Refused) := ⟨_, _, _, Qf_full_no, Dp39.g, Dp39.F.kp, Dp39.b⟩
    have W_full_no_board_lot : CalW l.prog w K mg base "full_no" ["board", "lot"] (fun us ws => us ++ ws) 7 (sp_fno K C_Board C_InvalidLot C_Refused) := ⟨_, _, _, Qf_full_no, Dp39.g, Dp39.F.kp, kw_full_no_board_lot Fp39⟩
    have Q__law_laid := ok_laid (P₀ := l.prog) (w := w) (base := base) (Dd := Dp40) (Z := Z)
    have Q__law_is_contents := ok_lcon (P₀ := l.prog) (w := w) (base := base) (Dd := Dp41) (Z := Z)
    have Q__law_same := ok_lsame (P₀ := l.prog) (w := w) (base := base) (Dd := Dp42) (Z := Z) (G__law_places := Q__law_places) (G__law_pick := Q__law_pick)
    have Q__law_holds := ok_lholds (P₀ := l.prog) (w := w) (base := base) (Dd := Dp43) (Z := Z) (G__law_is_contents := Q__law_is_contents) (G__law_laid := Q__law_laid) (G__law_number := Q__law_number)
    exact ok_law (P₀ := l.prog) (w := w) (base := base) (F := Cp44) (TBx := (hB (cop44, Pp44) (by simp))) (Z := Z) (T := T_Bo) (Tr := T_Tr) (Tl := T_Tl) (G__law_deal := Q__law_deal) (G__law_draw := Q__law_draw) (G__law_pick := Q__law_pick) (G__law_mixed := Q__law_mixed) (G__law_board := Q__law_board) (G__law_spoilt := Q__law_spoilt) (G__law_lots := Q__law_lots) (G__law_same := Q__law_same) (G__law_holds := Q__law_holds) (G__law_is_tested := Q__law_is_tested) (G_full_no := Q_full_no) (Gk_full_no := W_full_no_board_lot) (CT__law_is_refused := Q__law_is_refused) (CT__law_wrong := Q__law_wrong)
end K83
set_option linter.all false
open PySem PySem.W PyProof.Rows in
set_option maxRecDepth 100000 in
set_option maxHeartbeats 0 in
theorem PySem.Challenge.cw_oncetested_k83_whole_noes_in_which_all_p_holds : PySem.Challenge.rw_oncetested_k83_whole_noes_in_which_all_p.Holds := by
  w_on; o_law; k_head; (case hw => w_witness2)
  k_fill
  refine DL.walk_T (l := PySem.Challenge.rw_oncetested_k83_whole_noes_in_which_all_p) (n := 63) (k := 10) (x := "script") (xs := ["law"]) rfl (by decide) rfl ?hrec ⟨⟨rfl, by decide, by decide⟩, rfl⟩ (fun w h Y => PySem.W.km_in_of Y) ?nol ?F
  case hrec =>
    intro x hx
    rcases (by simpa using hx : x = "law") with rfl
    · kernel_rfl
  case nol => intro w; kernel_rfl
  case F =>
    intro w mg fa h KX G hmg hT
    refine' K83.all_mk KX G hmg hT ?xap0 ?xlp0 ?xcp0 ?xkp0 ?xap1 ?xlp1 ?xcp1 ?xkp1 ?xap2 ?xlp2 ?xcp2 ?xkp2 ?xap3 ?xlp3 ?xcp3 ?xkp3 ?xap4 ?xlp4 ?xcp4 ?xkp4 ?xap5 ?xlp5 ?xcp5 ?xkp5 ?xap6 ?xlp6 ?xcp6 ?xkp6 ?xap7 ?xlp7 ?xcp7 ?xkp7 ?xap8 ?xlp8 ?xcp8 ?xkp8 ?xap9 ?xlp9 ?xcp9 ?xkp9 ?xap10 ?xlp10 ?xcp10 ?xkp10 ?xap11 ?xlp11 ?xcp11 ?xkp11 ?xap12 ?xlp12 ?xcp12 ?xkp12 ?xap13 ?xlp13 ?xcp13 ?xkp13 ?xap14 ?xlp14 ?xcp14 ?xkp14 ?xap15 ?xlp15 ?xcp15 ?xkp15 ?xap16 ?xlp16 ?xcp16 ?xkp16 ?xap17 ?xlp17 ?xcp17 ?xkp17 ?xap18 ?xlp18 ?xcp18 ?xkp18 ?xap19 ?xlp19 ?xcp19 ?xkp19 ?xap20 ?xlp20 ?xcp20 ?xkp20 ?xap21 ?xlp21 ?xcp21 ?xkp21 ?xap22 ?xlp22 ?xcp22 ?xkp22 ?xap23 ?xlp23 ?xcp23 ?xkp23 ?xap24 ?xlp24 ?xcp24 ?xkp24 ?xap25 ?xlp25 ?xcp25 ?xkp25 ?xap26 ?xlp26 ?xcp26 ?xkp26 ?xap27 ?xlp27 ?xcp27 ?xkp27 ?xap28 ?xlp28 ?xcp28 ?xkp28 ?xap29 ?xlp29 ?xcp29 ?xkp29 ?xap30 ?xlp30 ?xcp30 ?xkp30 ?xap31 ?xlp31 ?xcp31 ?xkp31 ?xap32 ?xlp32 ?xcp32 ?xkp32 ?xap33 ?xlp33 ?xcp33 ?xkp33 ?xap34 ?xlp34 ?xcp34 ?xkp34 ?xap35 ?xlp35 ?xcp35 ?xkp35 ?xap36 ?xlp36 ?xcp36 ?xkp36 ?xap37 ?xlp37 ?xcp37 ?xkp37 ?xap38 ?xlp38 ?xcp38 ?xkp38 ?xap39 ?xlp39 ?xcp39 ?xkp39 ?xap40 ?xlp40 ?xcp40 ?xkp40 ?xap41 ?xlp41 ?xcp41 ?xkp41 ?xap42 ?xlp42 ?xcp42 ?xkp42 ?xap43 ?xlp43 ?xcp43 ?xkp43 ?xap44 ?xlp44 ?xcp44 ?xkp44 ?xlCp44 ?xvPp44 ?xnPp44 ?xaBo ?xam0 ?xlm0 ?xcm0 ?xkm0 ?xim0 ?xam1 ?xlm1 ?xcm1 ?xkm1 ?xim1 ?xam2 ?xlm2 ?xcm2 ?xkm2 ?xim2 ?xam3 ?xlm3 ?xcm3 ?xkm3 ?xim3 ?xfnCall ?xxBo ?xxNB ?xskB ?xfeB ?xfnB ?xpgB ?xhdB ?xpoB ?xsaB ?xhaB ?xmrB ?xkitB ?xno_NoneType ?xno_bool ?xno_int ?xno_str ?xno_tuple ?xno_list ?xty_bool ?xty_int ?xty_str ?xty_tuple ?xty_list ?xnf_NoneType ?xnf_bool ?xnf_int ?xnf_str ?xnf_tuple ?xnf_list ?xnf_self ?xna_many ?xna_sizes ?xna_marks ?xna_steps ?xmkB ?xkpB ?xhnC ?xtkC ?xaBE ?xaX0 ?xxX0 ?xsaX0 ?xgaX0 ?xggX0 ?xnaX0 ?xax0 ?xlx0 ?xcx0 ?xkx0 ?xtX0 ?xkX0 ?xeX0 ?xyX0 ?xhX0 ?xiX0 ?xcX0 ?xmX0 ?xaX1 ?xxX1 ?xsaX1 ?xgaX1 ?xggX1 ?xnaX1 ?xax1 ?xlx1 ?xcx1 ?xkx1 ?xtX1 ?xkX1 ?xeX1 ?xyX1 ?xhX1 ?xiX1 ?xcX1 ?xmX1 ?xaX2 ?xxX2 ?xsaX2 ?xgaX2 ?xggX2 ?xnaX2 ?xax2 ?xlx2 ?xcx2 ?xkx2 ?xtX2 ?xkX2 ?xeX2 ?xyX2 ?xhX2 ?xiX2 ?xcX2 ?xmX2 ?xaX3 ?xxX3 ?xsaX3 ?xgaX3 ?xggX3 ?xnaX3 ?xax3 ?xlx3 ?xcx3 ?xkx3 ?xtX3 ?xkX3 ?xeX3 ?xyX3 ?xhX3 ?xiX3 ?xcX3 ?xmX3 ?xaX4 ?xxX4 ?xsaX4 ?xgaX4 ?xggX4 ?xnaX4 ?xax4 ?xlx4 ?xcx4 ?xkx4 ?xtX4 ?xkX4 ?xeX4 ?xyX4 ?xhX4 ?xiX4 ?xcX4 ?xmX4 ?xsub_InvalidBoard_InvalidBoard ?xsub_InvalidBoard_InvalidSize ?xsub_InvalidSetting_InvalidSetting ?xsub_InvalidSize_InvalidSize ?xsub_Refused_Refused ?xsub_InvalidLot_InvalidLot ?xis_InvalidSize_BoardError ?xis_InvalidSize_InvalidBoard ?xis_InvalidBoard_BoardError ?xis_InvalidSetting_BoardError ?xis_InvalidLot_BoardError ?xis0V ?xisLV ?xkP ?xkS ?xzV ?xz_isi ?xz_int ?xz_tup ?xz_lst ?xz_sorted ?xz_all ?xz_any ?xz_enum ?xz_rng ?xz_len ?xz_abs ?xz_min ?xz_max ?xz_zip ?xz_bool ?xz_str ?xz_repr ?xz_sum ?xz_rev ?xz_set
    (case xap0 => k_is)
    (case xlp0 => k_is)
    (case xcp0 => k_is)
    (case xkp0 => k_is)
    (case xap1 => k_is)
    (case xlp1 => k_is)
    (case xcp1 => k_is)
    (case xkp1 => k_is)
    (case xap2 => k_is)
    (case xlp2 => k_is)
    (case xcp2 => k_is)
    (case xkp2 => k_is)
    (case xap3 => k_is)
    (case xlp3 => k_is)
    (case xcp3 => k_is)
    (case xkp3 => k_is)
    (case xap4 => k_is)
    (case xlp4 => k_is)
    (case xcp4 => k_is)
    (case xkp4 => k_is)
    (case xap5 => k_is)
    (case xlp5 => k_is)
    (case xcp5 => k_is)
    (case xkp5 => k_is)
    (case xap6 => k_is)
    (case xlp6 => k_is)
    (case xcp6 => k_is)
    (case xkp6 => k_is)
    (case xap7 => k_is)
    (case xlp7 => k_is)
    (case xcp7 => k_is)
    (case xkp7 => k_is)
    (case xap8 => k_is)
    (case xlp8 => k_is)
    (case xcp8 => k_is)
    (case xkp8 => k_is)
    (case xap9 => k_is)
    (case xlp9 => k_is)
    (case xcp9 => k_is)
    (case xkp9 => k_is)
    (case xap10 => k_is)
    (case xlp10 => k_is)
    (case xcp10 => k_is)
    (case xkp10 => k_is)
    (case xap11 => k_is)
    (case xlp11 => k_is)
    (case xcp11 => k_is)
    (case xkp11 => k_is)
    (case xap12 => k_is)
    (case xlp12 => k_is)
    (case xcp12 => k_is)
    (case xkp12 => k_is)
    (case xap13 => k_is)
    (case xlp13 => k_is)
    (case xcp13 => k_is)
    (case xkp13 => k_is)
    (case xap14 => k_is)
    (case xlp14 => k_is)
    (case xcp14 => k_is)
    (case xkp14 => k_is)
    (case xap15 => k_is)
    (case xlp15 => k_is)
    (case xcp15 => k_is)
    (case xkp15 => k_is)
    (case xap16 => k_is)
    (case xlp16 => k_is)
    (case xcp16 => k_is)
    (case xkp16 => k_is)
    (case xap17 => k_is)
    (case xlp17 => k_is)
    (case xcp17 => k_is)
    (case xkp17 => k_is)
    (case xap18 => k_is)
    (case xlp18 => k_is)
    (case xcp18 => k_is)
    (case xkp18 => k_is)
    (case xap19 => k_is)
    (case xlp19 => k_is)
    (case xcp19 => k_is)
    (case xkp19 => k_is)
    (case xap20 => k_is)
    (case xlp20 => k_is)
    (case xcp20 => k_is)
    (case xkp20 => k_is)
    (case xap21 => k_is)
    (case xlp21 => k_is)
    (case xcp21 => k_is)
    (case xkp21 => k_is)
    (case xap22 => k_is)
    (case xlp22 => k_is)
    (case xcp22 => k_is)
    (case xkp22 => k_is)
    (case xap23 => k_is)
    (case xlp23 => k_is)
    (case xcp23 => k_is)
    (case xkp23 => k_is)
    (case xap24 => k_is)
    (case xlp24 => k_is)
    (case xcp24 => k_is)
    (case xkp24 => k_is)
    (case xap25 => k_is)
    (case xlp25 => k_is)
    (case xcp25 => k_is)
    (case xkp25 => k_is)
    (case xap26 => k_is)
    (case xlp26 => k_is)
    (case xcp26 => k_is)
    (case xkp26 => k_is)
    (case xap27 => k_is)
    (case xlp27 => k_is)
    (case xcp27 => k_is)
    (case xkp27 => k_is)
    (case xap28 => k_is)
    (case xlp28 => k_is)
    (case xcp28 => k_is)
    (case xkp28 => k_is)
    (case xap29 => k_is)
    (case xlp29 => k_is)
    (case xcp29 => k_is)
    (case xkp29 => k_is)
    (case xap30 => k_is)
    (case xlp30 => k_is)
    (case xcp30 => k_is)
    (case xkp30 => k_is)
    (case xap31 => k_is)
    (case xlp31 => k_is)
    (case xcp31 => k_is)
    (case xkp31 => k_is)
    (case xap32 => k_is)
    (case xlp32 => k_is)
    (case xcp32 => k_is)
    (case xkp32 => k_is)
    (case xap33 => k_is)
    (case xlp33 => k_is)
    (case xcp33 => k_is)
    (case xkp33 => k_is)
    (case xap34 => k_is)
    (case xlp34 => k_is)
    (case xcp34 => k_is)
    (case xkp34 => k_is)
    (case xap35 => k_is)
    (case xlp35 => k_is)
    (case xcp35 => k_is)
    (case xkp35 => k_is)
    (case xap36 => k_is)
    (case xlp36 => k_is)
    (case xcp36 => k_is)
    (case xkp36 => k_is)
    (case xap37 => k_is)
    (case xlp37 => k_is)
    (case xcp37 => k_is)
    (case xkp37 => k_is)
    (case xap38 => k_is)
    (case xlp38 => k_is)
    (case xcp38 => k_is)
    (case xkp38 => k_is)
    (case xap39 => k_is)
    (case xlp39 => k_is)
    (case xcp39 => k_is)
    (case xkp39 => k_is)
    (case xap40 => k_is)
    (case xlp40 => k_is)
    (case xcp40 => k_is)
    (case xkp40 => k_is)
    (case xap41 => k_is)
    (case xlp41 => k_is)
    (case xcp41 => k_is)
    (case xkp41 => k_is)
    (case xap42 => k_is)
    (case xlp42 => k_is)
    (case xcp42 => k_is)
    (case xkp42 => k_is)
    (case xap43 => k_is)
    (case xlp43 => k_is)
    (case xcp43 => k_is)
    (case xkp43 => k_is)
    (case xap44 => k_is)
    (case xlp44 => k_is)
    (case xcp44 => k_is)
    (case xkp44 => k_is)
    (case xlCp44 => k_is)
    (case xvPp44 => rfl)
    (case xnPp44 => kernel_rfl)
    (case xaBo => k_is)
    (case xam0 => k_is)
    (case xlm0 => k_is)
    (case xcm0 => k_is)
    (case xkm0 => k_is)
    (case xim0 => k_is)
    (case xam1 => k_is)
    (case xlm1 => k_is)
    (case xcm1 => k_is)
    (case xkm1 => k_is)
    (case xim1 => k_is)
    (case xam2 => k_is)
    (case xlm2 => k_is)
    (case xcm2 => k_is)
    (case xkm2 => k_is)
    (case xim2 => k_is)
    (case xam3 => k_is)
    (case xlm3 => k_is)
    (case xcm3 => k_is)
    (case xkm3 => k_is)
    (case xim3 => k_is)
    (case xfnCall => k_is)
    (case xxBo => k_is)
    (case xxNB => k_is)
    (case xskB => first | rfl | kernel_rfl)
    (case xfeB => first | rfl | kernel_rfl)
    (case xfnB => first | rfl | kernel_rfl)
    (case xpgB => k_is)
    (case xhdB => k_is)
    (case xpoB => k_is)
    (case xsaB => k_is)
    (case xhaB => k_is)
    (case xmrB => k_is)
    (case xkitB => first | k_is | kernel_rfl | rfl)
    (case xno_NoneType => first | k_is | kernel_rfl | rfl)
    (case xno_bool => first | k_is | kernel_rfl | rfl)
    (case xno_int => first | k_is | kernel_rfl | rfl)
    (case xno_str => first | k_is | kernel_rfl | rfl)
    (case xno_tuple => first | k_is | kernel_rfl | rfl)
    (case xno_list => first | k_is | kernel_rfl | rfl)
    (case xty_bool => first | k_is | kernel_rfl | rfl)
    (case xty_int => first | k_is | kernel_rfl | rfl)
    (case xty_str => first | k_is | kernel_rfl | rfl)
    (case xty_tuple => first | k_is | kernel_rfl | rfl)
    (case xty_list => first | k_is | kernel_rfl | rfl)
    (case xnf_NoneType => first | k_is | kernel_rfl | rfl)
    (case xnf_bool => first | k_is | kernel_rfl | rfl)
    (case xnf_int => first | k_is | kernel_rfl | rfl)
    (case xnf_str => first | k_is | kernel_rfl | rfl)
    (case xnf_tuple => first | k_is | kernel_rfl | rfl)
    (case xnf_list => first | k_is | kernel_rfl | rfl)
    (case xnf_self => first | k_is | kernel_rfl | rfl)
    (case xna_many => k_is)
    (case xna_sizes => k_is)
    (case xna_marks => k_is)
    (case xna_steps => k_is)
    (case xmkB => k_is)
    (case xkpB => k_is)
    (case xhnC => k_is)
    (case xtkC => k_is)
    (case xaBE => k_is)
    (case xaX0 => k_is)
    (case xxX0 => k_is)
    (case xsaX0 => k_is)
    (case xgaX0 => k_is)
    (case xggX0 => k_is)
    (case xnaX0 => k_is)
    (case xax0 => k_is)
    (case xlx0 => k_is)
    (case xcx0 => k_is)
    (case xkx0 => k_is)
    (case xtX0 => k_is)
    (case xkX0 => k_is)
    (case xeX0 => k_is)
    (case xyX0 => k_is)
    (case xhX0 => k_is)
    (case xiX0 => first | k_is | kernel_rfl | rfl)
    (case xcX0 => k_is)
    (case xmX0 => k_is)
    (case xaX1 => k_is)
    (case xxX1 => k_is)
    (case xsaX1 => k_is)
    (case xgaX1 => k_is)
    (case xggX1 => k_is)
    (case xnaX1 => k_is)
    (case xax1 => k_is)
    (case xlx1 => k_is)
    (case xcx1 => k_is)
    (case xkx1 => k_is)
    (case xtX1 => k_is)
    (case xkX1 => k_is)
    (case xeX1 => k_is)
    (case xyX1 => k_is)
    (case xhX1 => k_is)
    (case xiX1 => first | k_is | kernel_rfl | rfl)
    (case xcX1 => k_is)
    (case xmX1 => k_is)
    (case xaX2 => k_is)
    (case xxX2 => k_is)
    (case xsaX2 => k_is)
    (case xgaX2 => k_is)
    (case xggX2 => k_is)
    (case xnaX2 => k_is)
    (case xax2 => k_is)
    (case xlx2 => k_is)
    (case xcx2 => k_is)
    (case xkx2 => k_is)
    (case xtX2 => k_is)
    (case xkX2 => k_is)
    (case xeX2 => k_is)
    (case xyX2 => k_is)
    (case xhX2 => k_is)
    (case xiX2 => first | k_is | kernel_rfl | rfl)
    (case xcX2 => k_is)
    (case xmX2 => k_is)
    (case xaX3 => k_is)
    (case xxX3 => k_is)
    (case xsaX3 => k_is)
    (case xgaX3 => k_is)
    (case xggX3 => k_is)
    (case xnaX3 => k_is)
    (case xax3 => k_is)
    (case xlx3 => k_is)
    (case xcx3 => k_is)
    (case xkx3 => k_is)
    (case xtX3 => k_is)
    (case xkX3 => k_is)
    (case xeX3 => k_is)
    (case xyX3 => k_is)
    (case xhX3 => k_is)
    (case xiX3 => first | k_is | kernel_rfl | rfl)
    (case xcX3 => k_is)
    (case xmX3 => k_is)
    (case xaX4 => k_is)
    (case xxX4 => k_is)
    (case xsaX4 => k_is)
    (case xgaX4 => k_is)
    (case xggX4 => k_is)
    (case xnaX4 => k_is)
    (case xax4 => k_is)
    (case xlx4 => k_is)
    (case xcx4 => k_is)
    (case xkx4 => k_is)
    (case xtX4 => k_is)
    (case xkX4 => k_is)
    (case xeX4 => k_is)
    (case xyX4 => k_is)
    (case xhX4 => k_is)
    (case xiX4 => first | k_is | kernel_rfl | rfl)
    (case xcX4 => k_is)
    (case xmX4 => k_is)
    (case xsub_InvalidBoard_InvalidBoard => first | rfl | k_is | kernel_rfl)
    (case xsub_InvalidBoard_InvalidSize => first | rfl | k_is | kernel_rfl)
    (case xsub_InvalidSetting_InvalidSetting => first | rfl | k_is | kernel_rfl)
    (case xsub_InvalidSize_InvalidSize => first | rfl | k_is | kernel_rfl)
    (case xsub_Refused_Refused => first | rfl | k_is | kernel_rfl)
    (case xsub_InvalidLot_InvalidLot => first | rfl | k_is | kernel_rfl)
    (case xis_InvalidSize_BoardError => first | k_is | kernel_rfl | rfl)
    (case xis_InvalidSize_InvalidBoard => first | k_is | kernel_rfl | rfl)
    (case xis_InvalidBoard_BoardError => first | k_is | kernel_rfl | rfl)
    (case xis_InvalidSetting_BoardError => first | k_is | kernel_rfl | rfl)
    (case xis_InvalidLot_BoardError => first | k_is | kernel_rfl | rfl)
    (case xis0V => first | k_is | kernel_rfl | rfl)
    (case xisLV => first | k_is | kernel_rfl | rfl)
    (case xkP => k_is)
    (case xkS => k_is)
    (case xzV => k_is)
    (case xz_isi => k_is)
    (case xz_int => k_is)
    (case xz_tup => k_is)
    (case xz_lst => k_is)
    (case xz_sorted => k_is)
    (case xz_all => k_is)
    (case xz_any => k_is)
    (case xz_enum => k_is)
    (case xz_rng => k_is)
    (case xz_len => k_is)
    (case xz_abs => k_is)
    (case xz_min => k_is)
    (case xz_max => k_is)
    (case xz_zip => k_is)
    (case xz_bool => k_is)
    (case xz_str => k_is)
    (case xz_repr => k_is)
    (case xz_sum => k_is)
    (case xz_rev => k_is)
    (case xz_set => k_is)
