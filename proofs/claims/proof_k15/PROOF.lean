import PyProof.Rows.All
import Wide.All
import OpenK.AllK
import Wide.FinOn
import PyProof.EqAt
import PyProof.EqKinds
import PyProof.TupleCall
import HandS.ForMost
import HandS.ForExc
import HandS.IsInst
import HandS.DictComp
import HandS.Style
import HandS.Sort
import HandS.TryMany
import HandS.ExcInit
import HandS.ExcField
import HandS.ClsMeth
import HandS.SetFor
import HandS.Zip
import HandS.Conv
import HandS.TupLe
import KE.GoesMore
import PySem.Challenge.RW_deeplooks_k15_exchanges
set_option Elab.async false
set_option linter.all false
set_option maxRecDepth 100000
set_option maxHeartbeats 4000000
/-! Rules that the program's errors want: own classes over Exception, a parent's __init__ called by name. -/
namespace PySem
namespace DLX
open PySem.W PySem.Calls PyProof.Rows PySem.HandSPX
abbrev exEnd : List Value := [.type "Exception", .type "BaseException", .type "object"]
/-- own classes, then Exception's row -/
def row (cs : List Addr) : List Value := cs.map Value.ref ++ exEnd
theorem row_has (X : String) : ∀ cs : List Addr, (row cs).contains (.type X) = exEnd.contains (.type X)
  | [] => rfl
  | c :: r => by
    show ((Value.ref c) :: row r).contains (.type X) = _
    rw [List.contains_cons, row_has X r]
    rfl
theorem row_pass (self : Value) : ∀ cs : List Addr, refuseLoop self "__setattr__" (row cs) = pure ()
  | [] => F.store_Exception.passes self
  | c :: r => by
    show refuseLoop self "__setattr__" (.ref c :: row r) = _
    rw [refuseLoop_ref]
    exact row_pass self r
theorem row_ne : ∀ cs : List Addr, (row cs).isEmpty = false
  | [] => rfl
  | _ :: _ => rfl
section
open Builtin Builtin.ObjectAttr
variable {prog : Program} {w : World} {A : Around} {E : Value → Shared → Prop} {R : Result → Shared → Prop} {hp : Heap} {g : Array GenState} {d : Drawn} {t : Nat} {os : OsState}
/-- the walk to the own dict, whatever stands in it -/
theorem to_own {K : W.Frag} {name : Str} {tk : Tok} {v : Value} {x C : Addr} {ox : Obj} {od : Option Obj} {cd : ClassData} {cs : List Addr}
    (X : K.In hp) (I : W.InstAt hp x ox C od) (hcd : W.clsIn K C = some cd) (hm : cd.mro = row cs) (ha : W.findIn K (.ref C) name = some none)
    (hq : wpAny (model prog w) A.in1 (storeInOwnDict (.ref x) (.ref C) (.str name tk) name v false)
      (fun fin s' => match fin with | .done f => R (.ok f) s' | .again c' => c'.quiet = true ∧ codeAny (model prog w) A c' R s') (fun e s' => R (.error e) s') ⟨hp, g, d, t, os⟩) :
    codeAny (model prog w) A (.call (.builtin "object.__setattr__") ⟨[.ref x, .str name tk, v], []⟩) R ⟨hp, g, d, t, os⟩ := by
  have sf := F.store_object
  have hob : cd.mro.contains (.type "object") = true := by rw [hm, row_has]; decide +kernel
  have hne : cd.mro.isEmpty = false := by rw [hm]; exact row_ne cs
  have sub : W.Looks (model prog w) hp (isInstance (.ref x) (.type "object")) true := I.type.andThen (W.looks_mroIn X (by unfold W.mroIn; rw [hcd, Option.bind_some, if_neg (by rw [hne]; decide), hob]))
  refine codeAny_call_builtin sf.slot.plain sf.entry (@W.check_slot (model prog w) _ _ ⟨hp, g, d, t, os⟩ "object.__setattr__" "object" "__setattr__" (.ref x) [.str name tk, v] [] _ sf.kind sf.split sub (sf.args (.ref x) (.str name tk) v) ?_)
  have hmr : W.Looks (model prog w) hp (mroOf (.ref C)) cd.mro := (W.looks_clsIn X hcd).andThen .now
  have L3 : W.Looks (model prog w) hp (storeTaker? none) none := .now
  rw [W.osa_eq, refuse_eq]
  refine wpAny_bind (wpAny_bind (I.type.at (wpAny_bind (hmr.at ?_))))
  rw [hm, row_pass]
  exact wpAny_pure (wpAny_bind (I.type.at (wpAny_bind ((W.looks_findIn X ha).at (wpAny_bind (L3.at hq))))))
theorem own_first {K : W.Frag} {name : Str} {tk : Tok} {v : Value} {x C : Addr} {fv : Array Value} {cd : ClassData} {cs : List Addr}
    (X : K.In hp) (hx : hp.get? x = some { cls := .ref C, data := .fields fv }) (hcd : W.clsIn K C = some cd) (hm : cd.mro = row cs) (hh : cd.hasDict = true) (ha : W.findIn K (.ref C) name = some none)
    (hq : ∀ h' tk' dx, (∀ b o, b ≠ x → hp.get? b = some o → h'.get? b = some o) → hp.objs.size ≤ dx → dx ≠ x → h'.get? x = some { cls := .ref C, dict := some dx, data := .fields fv } →
      h'.Ns1 dx (fun y => if y = name then some v else none) → R (.ok (.ret .none)) ⟨h', g, d, tk', os⟩) :
    codeAny (model prog w) A (.call (.builtin "object.__setattr__") ⟨[.ref x, .str name tk, v], []⟩) R ⟨hp, g, d, t, os⟩ := by
  have hxs : x ≠ hp.objs.size := Nat.ne_of_lt (Heap.lt_size hx)
  refine to_own X ⟨hx, rfl, rfl, trivial⟩ (od := none) hcd hm ha ?_
  have hcls : W.Looks (model prog w) hp (classData C) cd := W.looks_clsIn X hcd
  obtain ⟨nm, bs, mro, ns, qn, hd, sn, sb, ab, col, del⟩ := cd
  dsimp only at hh
  subst hh
  unfold storeInOwnDict ownDictForStores
  repeat (first | with_reducible refine HandSPX.store_in_new ?_ ?_ | with_reducible refine wpAny_loadPart_at hx ?_ | with_reducible refine hcls.at ?_ | wp_step)
  · exact ⟨_, #[], _, (Heap.get?_update_ne _ _ _ _ hxs.symm).trans (Heap.get?_push_at rfl rfl), rfl, fun e he => absurd he (by simp), fun _ => rfl⟩
  · intro h' tk' hn' hs
    have hx₁ : (hp.push { cls := .type "dict", data := .dict #[] }).get? x = some { cls := .ref C, data := .fields fv } := Heap.get?_push_of_some _ hx
    refine hq h' tk' hp.objs.size (fun b o hb ho => ?_) (Nat.le_refl _) hxs.symm ?_ hn'
    · exact (hs.2 b (Nat.ne_of_lt (Heap.lt_size ho))).trans ((Heap.get?_update_ne _ _ _ _ hb).trans (Heap.get?_push_of_some _ ho))
    · exact (hs.2 x hxs).trans (Heap.get?_update_self _ hx₁ rfl)
theorem own_next {K : W.Frag} {name : Str} {tk : Tok} {v : Value} {x C dx : Addr} {fv : Array Value} {cd : ClassData} {cs : List Addr} {m0 : Str → Option Value} {nl : List Str}
    (X : K.In hp) (hx : hp.get? x = some { cls := .ref C, dict := some dx, data := .fields fv }) (hns : hp.Ns1 dx m0) (hw : Within m0 nl) (hz : nl.length ≤ 1000) (hcd : W.clsIn K C = some cd) (hm : cd.mro = row cs) (hh : cd.hasDict = true)
    (ha : W.findIn K (.ref C) name = some none)
    (hq : ∀ h' tk', (∀ b o, b ≠ dx → hp.get? b = some o → h'.get? b = some o) → h'.Ns1 dx (fun y => if y = name then some v else m0 y) → R (.ok (.ret .none)) ⟨h', g, d, tk', os⟩) :
    codeAny (model prog w) A (.call (.builtin "object.__setattr__") ⟨[.ref x, .str name tk, v], []⟩) R ⟨hp, g, d, t, os⟩ := by
  obtain ⟨oD, esD, epD, hoD, hdD, _⟩ := hns.count hw
  refine to_own X ⟨hx, rfl, rfl, hoD⟩ (od := some oD) hcd hm ha ?_
  have hcls : W.Looks (model prog w) hp (classData C) cd := W.looks_clsIn X hcd
  obtain ⟨nm, bs, mro, ns, qn, hd, sn, sb, ab, col, del⟩ := cd
  dsimp only at hh
  subst hh
  unfold storeInOwnDict ownDictForStores
  repeat (first | with_reducible refine OEX.store_in_old hns hw hz ?_ | with_reducible refine wpAny_loadPart_at hx ?_ | with_reducible refine hcls.at ?_ | wp_step)
  intro h' tk' hn' hs
  exact hq h' tk' (fun b o hb ho => (hs.2 b hb).trans ho) hn'
end
end DLX
end PySem
namespace L2
open PySem PySem.Spec PyProof.Rows
/-- what the top says of an error class: own classes over Exception, attributes set as usual -/
structure ErC (K : PySem.W.Frag) (C : Addr) : Prop where
  cls : ∃ nm q N bs cs sn sub ab col dd k0 k1 k2 k3 k5, K.lookup C = some (excClassObj nm q C N bs (PySem.DLX.row cs) true sn sub ab col dd k0 k1 k2 k3 k5 "Exception.__new__")
  sa : PySem.W.findIn K (.ref C) "__setattr__" = some (some (.builtin "object.__setattr__"))
  exC : PySem.W.subIn K (.ref C) (.type "BaseException") = some true
  tyC : PySem.W.typeIn K (.ref C) = some (.type "type")
  kC : PySem.W.keepIn K (.ref C) = true
section
variable {X : Cx} {pins : List (Addr × Obj)} {σ : St} {H : Hp} {s : Shared} {a C dx : Addr} {f : Str} {y : V} {u : Value} {fs : List (Str × V)} {Q : Unit → Shared → Prop} {E : Value → Shared → Prop} {A : Around}
theorem set_first (T : ErC X.K C) (I : Inv X pins σ H s) (e : H a = some (exo a C none)) (hno : PySem.W.findIn X.K (.ref C) f = some none) (ry : RelV y u)
    (h : ∀ dx s', H dx = none → dx ≠ a → Inv X pins σ (upd (upd H dx (exd dx [(f, y)])) a (exo a C (some dx))) s' → Q () s') : wpAny (model X.prog X.w) A (setAttr (.ref a) f u) Q E s := by
  obtain ⟨nm, q, N, bs, cs, sn, sub, ab, col, dd, k0, k1, k2, k3, k5, hC⟩ := T.cls
  have hcl : PySem.W.clsIn X.K C = some { name := nm, bases := bs, mro := .ref C :: PySem.DLX.row cs, ns := N, qualname := q, hasDict := true, slotNames := sn, subclasses := sub, abstract := ab, collection := col, hasDel := false } := by unfold PySem.W.clsIn; rw [hC] <;> rfl
  obtain ⟨t1, ho⟩ := exo_at I.hok e
  obtain ⟨hp, g, d, t, os⟩ := s
  refine PySem.W.set_plain I.kIn (ox := { cls := .ref C, dict := none, data := .fields #[.ref t1, .none, .none, .none, .bool false, .none] }) (od := none) ⟨ho, rfl, rfl, trivial⟩ T.sa ?_
  refine PySem.DLX.own_first (cs := C :: cs) I.kIn ho hcl rfl rfl hno (fun h' tk' dx k dn dne hx hn => ?_)
  have hnd : H dx = none := I.hok.fresh dn
  have nd : ∀ {b : Addr} {o : Obj}, hp.get? b = some o → b ≠ dx := fun {b o} q => Nat.ne_of_lt (Nat.lt_of_lt_of_le (Heap.lt_size q) dn)
  have na : ∀ {b : Addr}, H b = none → b ≠ a := fun {b} n z => by rw [z, e] at n; cases n
  have un : Un X.fs [] H (upd (upd H dx (exd dx [(f, y)])) a (exo a C (some dx))) hp h' := {
    keep := fun b o q n _ _ => k b o (na n) q
    slot := fun b o q n _ _ => ⟨o.slots, k b o (na n) q⟩
    free := fun b o q n _ => by rw [upd_ne (na n), upd_ne (nd q)]; exact n
    there := fun b o q _ => by
      by_cases hb : b = a
      · exact ⟨_, by rw [hb]; exact hx⟩
      · exact ⟨o, k b o hb q⟩
    tups := fun b xs q => by rw [upd_ne (at_ne e q exo_tup), upd_ne (ne_of_none q hnd)]; exact q
    frzs := fun b o v q => by rw [upd_ne (at_ne e q exo_frz), upd_ne (ne_of_none q hnd)]; exact q
    tbls := fun b ps q => ⟨#[], by rw [upd_ne (at_ne e q exo_tbl), upd_ne (ne_of_none q hnd), q]; simp⟩ }
  refine h dx _ hnd dne (I.un (t' := tk') un fun b o q => ?_)
  by_cases hb : b = a
  · subst hb
    rw [upd_same] at q
    cases q
    exact exo_ok hx
  · rw [upd_ne hb] at q
    by_cases hd : b = dx
    · subst hd
      rw [upd_same] at q
      cases q
      exact exd_ok hn (relO_put (fs := []) ry fun g => True.intro)
    · rw [upd_ne hd] at q
      exact (I.hok b o q).stay (fun c v hc z => k c v (by
          rcases hc with hc | hc
          · rw [hc]; exact hb
          · exact at_ne e hc exo_own) z)
        (fun c hc => by rw [upd_ne (at_ne e hc exo_own), upd_ne (ne_of_none hc hnd)]; exact hc) (fun c xs hc => by rw [upd_ne (at_ne e hc exo_tup), upd_ne (ne_of_none hc hnd)]; exact hc)
theorem set_next (T : ErC X.K C) (I : Inv X pins σ H s) (e : H a = some (exo a C (some dx))) (ed : H dx = some (exd dx fs)) (hl : fs.length ≤ 900) (hno : PySem.W.findIn X.K (.ref C) f = some none) (ry : RelV y u)
    (h : ∀ s', Inv X pins σ (upd H dx (exd dx ((f, y) :: fs))) s' → Q () s') : wpAny (model X.prog X.w) A (setAttr (.ref a) f u) Q E s := by
  obtain ⟨nm, q, N, bs, cs, sn, sub, ab, col, dd, k0, k1, k2, k3, k5, hC⟩ := T.cls
  have hcl : PySem.W.clsIn X.K C = some { name := nm, bases := bs, mro := .ref C :: PySem.DLX.row cs, ns := N, qualname := q, hasDict := true, slotNames := sn, subclasses := sub, abstract := ab, collection := col, hasDel := false } := by unfold PySem.W.clsIn; rw [hC] <;> rfl
  obtain ⟨t1, ho⟩ := exo_at I.hok e
  obtain ⟨mA, hns, rel⟩ := exd_at I.hok ed
  have hw := within_of rel
  obtain ⟨hp, g, d, t, os⟩ := s
  obtain ⟨oD, _, _, hoD, _, _⟩ := hns.count hw
  refine PySem.W.set_plain I.kIn (ox := { cls := .ref C, dict := some dx, data := .fields #[.ref t1, .none, .none, .none, .bool false, .none] }) (od := some oD) ⟨ho, rfl, rfl, hoD⟩ T.sa ?_
  refine PySem.DLX.own_next (cs := C :: cs) I.kIn ho hns hw (by rw [List.length_map]; omega) hcl rfl rfl hno (fun h' tk' k hn => ?_)
  have hd : ∃ o, h'.get? dx = some o := let ⟨o, _, _, e', _⟩ := hn; ⟨o, e'⟩
  exact h _ (I.write (t' := tk') (x := dx) (e := dx) (o := exd dx ((f, y) :: fs)) (by rw [ed]; exact True.intro) (.inl rfl) k hd (exd_ok hn (relO_put ry rel)))
end
/-- self.f = e in an error's __init__: the first field, or a further one -/
def tErSet (K : PySem.W.Frag) (f : Str) (to te : TE) : TS := fun D σ H => te σ H fun y H1 => to σ H1 fun x H2 => ∃ a C : Addr, x = .ref a ∧ ErC K C ∧ PySem.W.findIn K (.ref C) f = some none ∧
  ((H2 a = some (exo a C none) ∧ ∀ dx, H2 dx = none → dx ≠ a → D.nx σ (upd (upd H2 dx (exd dx [(f, y)])) a (exo a C (some dx)))) ∨
    ∃ (dx : Addr) (fs : List (Str × V)), H2 a = some (exo a C (some dx)) ∧ H2 dx = some (exd dx fs) ∧ fs.length ≤ 900 ∧ D.nx σ (upd H2 dx (exd dx ((f, y) :: fs))))
/-- C(e, ..), C's own __init__ keeping sp -/
def tErMk (C : Addr) (sp : Sp) (dvs : List V) (ta : TA) : St → Hp → XK → Prop := fun σ H Q => ta σ H fun vs H1 => vs.length ≤ 1000 ∧ ∀ a, H1 a = none → sp (.ref a :: (vs ++ dvs)) (upd H1 a (exo a C none))
  (fun v H2 => v = .non ∧ ∃ (d : Addr) (fs : List (Str × V)), H2 a = some (exo a C (some d)) ∧ H2 d = some (exd d fs) ∧ H1 d = none ∧ Q (.ref C) (some d) (upd (del H2 a) d (.xd fs))) (fun _ _ _ => False)
section
variable {X : Cx} {o e : Expr} {es : List Expr} {to te : TE} {ta : TA} {f : Str} {p p' p1 p2 pos : Pos}
theorem ps_erset (ho : PE X o to) (he : PE X e te) (hs : swapsWith e (some (.Attribute o f p')) pos.line X.env = pure false := by rfl) : PS X (.Assign [.Attribute o f p'] e pos) (tErSet X.K f to te) := by
  refine ⟨fun pins s σ H D I h => ?_⟩
  refine plainObj_wpAny_Assign_Attribute (thn (he.run pins s σ H _ I h) fun v s1 ⟨y, H1, I1, r1, q1⟩ => thn (ho.run pins s1 σ H1 _ I1 q1) fun u s2 ⟨x, H2, I2, r2, a, C, ex, T, hno, q⟩ => ?_) hs
  subst ex
  obtain rfl : u = Value.ref a := r2
  rcases q with ⟨ea, q⟩ | ⟨dx, fs, ea, ed, hl, q⟩
  · exact set_first T I2 ea hno r1 fun dx s' n ne J => ⟨σ, _, J, q dx n ne⟩
  · exact set_next T I2 ea ed hl hno r1 fun s' J => ⟨σ, _, J, q⟩
theorem pmk_er {CX : CXT} {x : Str} {C fI : Addr} {k : Nat} {fd : FuncData} {ps : List Str} {sp : Sp} {ds : List Value} {dvs : List V} (T : ErC X.K C) (iC : PySem.W.findIn X.K (.ref C) "__init__" = some (some (.ref fI))) (tI : PySem.W.typeIn X.K (.ref fI) = some (.type "function"))
    (F1 : FnOk X.prog X.w X.K X.mg X.base CX k fI fd ps sp) (hr : Room (k + 1) X.A) (hb : Binds X.K fd ps ds) (hd : Vals dvs ds) (hx : Passes CX X (fun _ _ _ => False)) (hg : Gl X x) (hm : X.mg x = some (.ref C)) (ha : PA X (e :: es) ta)
    (hdb : (x == ("__debug__" : Str)) = false := by decide) (he : starEach (e :: es) X.env = (false, eval e X.env) :: starEach es X.env := by rfl) (hpl : (backTo pos (starEach es X.env)).any (·.1) = false := by rfl) :
    PMk X (.Call (.Name x p) (e :: es) [] pos) (tErMk C sp dvs ta) := by
  intro pins s σ H Q I h
  obtain ⟨nm, q, N, bs, cs, sn, sub, ab, col, dd, k0, k1, k2, k3, k5, hC⟩ := T.cls
  refine wpAny_Call_Name_kw (ld_glob I hg hm ?_ hdb)
  refine PySem.W.callWith_K (h₀ := X.base) I.ok.mod.kin T.kC (thn (ha.run pos pins s σ H _ I h) fun us s1 ⟨vs, H1, I1, r1, hz, q1⟩ => ⟨I1.kIn, ?_⟩) he hpl
  show wpAny _ _ (call (.ref C) us) _ _ _
  obtain ⟨hp, g, dr, tk, os⟩ := s1
  have hsz : hp.objs.size ≤ hp.objs.size + 1 := Nat.le_succ _
  have hq := q1 (hp.objs.size + 1) (I1.hok.fresh hsz)
  have kk : ∀ b o, hp.get? b = some o → ((hp.push (PySem.W.kdv_tup us)).push (PySem.HandSPX.excO C hp.objs.size)).get? b = some o := fun b o e => Heap.get?_push_of_some _ (Heap.get?_push_of_some _ e)
  have hget : ((hp.push (PySem.W.kdv_tup us)).push (PySem.HandSPX.excO C hp.objs.size)).get? (hp.objs.size + 1) = some (PySem.HandSPX.excO C hp.objs.size) := by heap_get
  have I2 : Inv X pins σ (upd H1 (hp.objs.size + 1) (exo (hp.objs.size + 1) C none)) ⟨(hp.push (PySem.W.kdv_tup us)).push (PySem.HandSPX.excO C hp.objs.size), g, dr, tk, os⟩ :=
    I1.laid (t' := tk) (a := hp.objs.size + 1) (o := exo (hp.objs.size + 1) C none) (h' := (hp.push (PySem.W.kdv_tup us)).push (PySem.HandSPX.excO C hp.objs.size)) kk hsz (exo_ok hget)
  have r2 : Vals (V.ref (hp.objs.size + 1) :: (vs ++ dvs)) (Value.ref (hp.objs.size + 1) :: (us ++ ds)) := .cons rfl (r1.append hd)
  have hl : (Value.ref (hp.objs.size + 1) :: us ++ ds).length = ps.length := by
    have e := r2.length
    rw [F1.len _ _ _ _ hq] at e
    exact e.symm
  have hus : us.length ≤ sizeLine := by rw [← Paired.length r1, sizeLine_eq]; omega
  refine wpAny_call (PySem.HandSPX.call_own F.excBase_Exception (fun Y => PySem.DLX.row_has Y cs) (I1.kIn _ _ hC) (PySem.W.looks_findIn I1.kIn iC) (fun self => PySem.W.bind_fn I1.kIn self tI) hus
    (codeAny_mono (F1.run _ X.stack _ _ ⟨Value.ref (hp.objs.size + 1) :: us, []⟩ (Value.ref (hp.objs.size + 1) :: (us ++ ds)) _ _ (fun _ _ _ => False) (hr.make C us []) (I2.env0.make C us []) (hb _ (Value.ref (hp.objs.size + 1) :: us) I2.kIn hl) r2 hq) fun r s' hq' => ?_))
  cases r with
  | error er => exact hx pins σ _ _ er s' I2 hq'
  | ok fl =>
    cases fl with
    | ret u =>
      obtain ⟨v, H2, os2, bare2, un2, hok2, rv, ev, d, fs, ea, ed, hd1, q2⟩ := hq'
      subst ev
      obtain ⟨h2, g2, d2, t2, os'⟩ := s'
      exact ⟨rv, mk_end (raises_own T.exC T.tyC) I1 hsz kk un2 hok2 os2 bare2 ea ed hd1 q2⟩
    | next => exact False.elim hq'
    | brk => exact False.elim hq'
    | cont => exact False.elim hq'
/-- D.m(e, ..), D a class of the top, m a plain def of it -/
theorem pe_cdef {CX : CXT} {x m : Str} {mc : Value} {D g : Addr} {k : Nat} {fd : FuncData} {ps : List Str} {sp : Sp} {ds : List Value} {dvs : List V} {E : XK} {pl : Sem Bool} (r : ClX.CRead X.K D mc) (c : ClX.CVal X.K D mc m (.ref g) (.ref g))
    (F1 : FnOk X.prog X.w X.K X.mg X.base CX k g fd ps sp) (hr : Room k X.A) (hk : PySem.W.keepIn X.K (.ref g) = true) (hb : Binds X.K fd ps ds) (hd : Vals dvs ds) (hx : Passes CX X E) (hg : Gl X x) (hm : X.mg x = some (.ref D)) (ha : PA X (e :: es) ta)
    (hdb : (x == ("__debug__" : Str)) = false := by decide) (hst : starEach (e :: es) X.env = (false, eval e X.env) :: starEach es X.env := by rfl) (hpl : (backTo pos (starEach es X.env)).any (·.1) = false := by rfl)
    (ht : eval (.Call (.Attribute (.Name x p1) m p2) (e :: es) [] pos) X.env = (do
      let ov ← eval (.Name x p1) X.env
      standAt p2.atName
      let (f, first) ← holding [ov] (getMethod ov m pl)
      callWith pos f first (backTo pos (starEach (e :: es) X.env)) (backToKw pos (keywordEach [] X.env))) := by rfl) :
    PE X (.Call (.Attribute (.Name x p1) m p2) (e :: es) [] pos) (tCall sp dvs E ta) := by
  refine ⟨fun pins s σ H Q I h => ?_⟩
  refine PySem.W.methodCall_KW (pl := pl) (ld_glob I hg hm ?_ hdb) ht
  refine PySem.W.method_cls I.kIn r.ga (ClX.getcval_ok I r c fun s' I' => ?_)
  show wpAny _ _ (callWith pos (Value.ref g) [] (backTo pos (starEach (e :: es) X.env)) []) _ _ _
  refine PySem.W.callWith_K (first := []) (h₀ := X.base) I'.ok.mod.kin hk (thn (ha.run pos pins s' σ H _ I' h) fun us s1 ⟨vs, H1, I1, r1, q⟩ => ⟨I1.kIn, ?_⟩) hst hpl
  exact run_fn F1 hr hb hd hx I1 r1 q
end
end L2
set_option maxRecDepth 100000
set_option maxHeartbeats 4000000
/-! More rules: len(set(..)) of any ints, any over ints, enumerate over a tuple or a list, a range object walked, a try with a named clause and a bare one. -/
namespace PySem
open AutoSeq1 (wpAny_loadPart')
theorem dl_enum_new (l : Addr) (items : Array Value) (n : Nat) (dct : Option Addr) (sl : Array (Option Value)) :
    Meets (Builtin.«enumerate.__new__» ⟨[.type "enumerate", .ref l], []⟩) (fun _ R s => s.heap.get? l = some { cls := .type "tuple", dict := dct, data := .seq items n, slots := sl } ∧
      R (.ok (.ret (.ref (s.heap.push { cls := .type "tuple_iterator", data := .fields #[.ref l, .int 0 0] }).objs.size)))
        { s with heap := (s.heap.push { cls := .type "tuple_iterator", data := .fields #[.ref l, .int 0 0] }).push { cls := .type "enumerate", data := .fields #[.none, .bool false, .ref s.heap.objs.size, rawInt 0, .none, .none] } }) :=
  .of_wp fun prog w A R s h => by
    obtain ⟨hp, g, d, tk, os⟩ := s
    obtain ⟨hl, h⟩ := h
    have hsub := sub_enumerate
    have hL : Heap.IsTuple (Shared.heap ⟨hp, g, d, tk, os⟩) l items := ⟨_, hl, rfl, n, rfl⟩
    wp_walk using wpAny_loadPart' hl
    refine wpAny_stack_any fun st => wpAny_pure ?_
    split
    · rename_i c _ _ _ _ _
      cases (c == Value.type "enumerate")
      · wp_walk using wpAny_loadPart' hl, wpAny_pyIter_tuple hL
        exact ⟨_, rfl, h⟩
      · wp_walk using wpAny_loadPart' hl, wpAny_pyIter_tuple hL
        exact ⟨_, rfl, h⟩
    · wp_walk using wpAny_loadPart' hl, wpAny_pyIter_tuple hL
      exact ⟨_, rfl, h⟩
section
variable {prog : Program} {w : World} {A : Around} {E : Value → Shared → Prop} {s : Shared}
theorem dl_enum_call {l : Addr} {items : Array Value} {Q : Value → Shared → Prop} (hL : s.heap.IsTuple l items)
    (h : ∀ h', IsEnum h' (s.heap.objs.size + 1) s.heap.objs.size 0 .none → h'.IsTupleIter s.heap.objs.size l 0 → h'.objs.size = s.heap.objs.size + 2 →
      (∀ b o, s.heap.get? b = some o → h'.get? b = some o) → Q (.ref (s.heap.objs.size + 1)) { s with heap := h' }) :
    wpAny (model prog w) A (call (.type "enumerate") [.ref l]) Q E s := by
  obtain ⟨⟨c, dct, dt, sl⟩, hl, hc, n, hd⟩ := hL
  replace hc : c = .type "tuple" := hc
  replace hd : dt = .seq items n := hd
  subst hc hd
  refine callType_new F.called_enumerate (by decide) (F.typeCall_enumerate_1 _) (F.newCall_enumerate_1 _) (fun obj => F.args_object_init_2 obj _) F.entry_enumerate_new (dl_enum_new l items n dct sl) ⟨hl, ?_⟩
  have hz : (s.heap.push { cls := .type "tuple_iterator", data := .fields #[.ref l, .int 0 0] }).objs.size = s.heap.objs.size + 1 := Heap.size_push ..
  show _ ∧ _
  rw [hz]
  have he : IsEnum ((s.heap.push { cls := .type "tuple_iterator", data := .fields #[.ref l, .int 0 0] }).push
      { cls := .type "enumerate", data := .fields #[.none, .bool false, .ref s.heap.objs.size, rawInt 0, .none, .none] }) (s.heap.objs.size + 1) s.heap.objs.size 0 .none := by
    have q := Heap.get?_push_size (s.heap.push { cls := .type "tuple_iterator", data := .fields #[.ref l, .int 0 0] }) (o := { cls := .type "enumerate", data := .fields #[.none, .bool false, .ref s.heap.objs.size, rawInt 0, .none, .none] }) rfl
    rw [hz] at q
    exact q
  exact ⟨⟨_, he, rfl⟩, h _ he ⟨_, Heap.get?_push_of_some _ (Heap.get?_push_size _ rfl), rfl, rfl⟩ (by rw [Heap.size_push, hz]) fun b o x => Heap.get?_push_of_some _ (Heap.get?_push_of_some _ x)⟩
end
end PySem
namespace L2
open PySem PySem.Spec PyProof.Rows
/-- a list or a tuple of xs stands at a -/
def SqA (K : PySem.W.Frag) (H : Hp) (a : Addr) (xs : List V) : Prop := SqL K H a xs ∨ SqT K H a xs
/-- each turn: the place and the item, in a new pair -/
def IteA (xs : List V) : It :=
  ⟨fun i _ => i < xs.length, fun i H v H' => ∃ T x, v = .ref T ∧ H T = none ∧ H' = upd H T (.tup [.int (i : Nat), x]) ∧ xs[i]? = some x, fun i _ => xs.length ≤ i⟩
theorem Inv.tupKeep {X : Cx} {pins : List (Addr × Obj)} {σ : St} {H : Hp} {s : Shared} {a : Addr} {xs : List V} (I : Inv X pins σ H s) (h : SqT X.K H a xs) : ∃ its, Vals xs its ∧ s.heap.IsTuple a its.toArray := by
  obtain ⟨its, rv, p, _⟩ := I.tuple h
  exact ⟨its, rv, p⟩
end L2
namespace L2
open PySem PySem.Spec PyProof.Rows
def IteT (K : PySem.W.Frag) (a : Addr) : It :=
  ⟨fun i H => ∃ (xs : List V) (x : V), SqT K H a xs ∧ xs[i]? = some x, fun i H v H' => ∃ T x, v = .ref T ∧ H T = none ∧ H' = upd H T (.tup [.int (i : Nat), x]) ∧ ∀ xs, SqT K H a xs → xs[i]? = some x, fun i H => ∃ xs : List V, SqT K H a xs ∧ xs.length ≤ i⟩
theorem turn_enumT {P : Program} {w : World} {K : PySem.W.Frag} {elts : List Expr} {kk : Nat} {tpos : Pos} (a e it : Addr) :
    Turn P w K (.Tuple elts kk tpos) (IteT K a) [e, it] e (fun i h => (∃ old, IsEnum h e it ((i : Nat) : Int) old) ∧ h.IsTupleIter it a i ∧ e ≠ it) where
  mem := by simp
  obj := fun i h st b hb => by
    obtain ⟨⟨old, he⟩, ⟨o, ho, hc, hd⟩, _⟩ := st
    have e' : b = e ∨ b = it := by simpa using hb
    rcases e' with z | z
    · rw [z]; exact ⟨_, he, fun v q => nomatch q⟩
    · rw [z]; exact ⟨o, ho, fun v q => by rw [hd] at q; cases q⟩
  keep := fun i h h' st k => let ⟨⟨old, he⟩, ⟨o, ho, r⟩, hne⟩ := st; ⟨⟨old, k e (by simp) _ he⟩, ⟨o, k it (by simp) o ho, r⟩, hne⟩
  item := by
    intro X hP hw hK hc i pins s σ H E I hf st hg
    subst hP hw hK
    obtain ⟨⟨old, he⟩, hit, hne⟩ := st
    obtain ⟨xs, x, hq, hx⟩ := hg
    obtain ⟨its, rv, p, hz⟩ := I.tuple hq
    have pt : s.heap.IsTuple a its.toArray := p
    obtain ⟨u, hu, ru⟩ := rv.get hx
    have hel : e < s.heap.objs.size := Heap.lt_size he
    have hil : it < s.heap.objs.size := by obtain ⟨_, q, _⟩ := hit; exact Heap.lt_size q
    have hea : e ≠ a := by
      rintro rfl
      obtain ⟨o, q, c, _⟩ := pt
      rw [he] at q
      cases q
      injection c with z
      exact absurd z (by decide)
    have hai : a ≠ it := by
      rintro rfl
      obtain ⟨o, q, c, _⟩ := pt
      obtain ⟨o', q', c', _⟩ := hit
      rw [q] at q'
      cases q'
      rw [c] at c'
      injection c' with z
      exact absurd z (by decide)
    have hlt : i < its.toArray.size := by
      have := (List.getElem?_eq_some_iff.mp hu).1
      simpa using this
    refine wpAny_pyNext_enum_itemD (Draws.tuple (prog := X.prog) (w := X.w) (A := X.A.in1) (show X.A.in1.handled = none from I.ok.hd hc) it a hai its.toArray) he ⟨hit, pt⟩ hlt hne (by simp [hne, hea]) fun u' h' tk hP ho hs' hT hsz hk => ?_
    have eu : u' = u := by
      have q : its[i]? = some u' := by simpa using hP
      rw [hu] at q
      exact (Option.some.inj q).symm
    subst eu
    refine ⟨_, rfl, wpAny_letOwnedTupleGo_enum (s := { s with heap := h', toks := tk + 1 }) ho fun h'' he' sb => ?_⟩
    have hT2 : h''.get? s.heap.objs.size = some { cls := .type "tuple", data := .seq #[.int i tk, u'] } := (sb.2 _ (Nat.ne_of_gt hel)).trans hT
    have new : ObjOk X.prog X.w (upd H s.heap.objs.size (.tup [.int (i : Nat), x])) h'' s.heap.objs.size (.tup [.int (i : Nat), x]) :=
      ⟨by show 2 ≤ sizeLine; decide, [.int i tk, u'], .cons ⟨_, rfl⟩ (.cons ru .nil), ⟨_, hT2, rfl, _, rfl⟩⟩
    have I1 : Inv X pins σ (upd H s.heap.objs.size (.tup [.int (i : Nat), x])) { s with heap := h'', toks := tk + 1 } :=
      I.turnedNew (ch := [e, it]) (fun b ob hb q => (sb.2 b (fun z => hb (by simp [z]))).trans (hk b ob (fun z => hb (by simp [z])) (fun z => hb (by simp [z])) q)) hf (Nat.le_refl _) new
    refine ⟨.ref s.heap.objs.size, _, I1, rfl, ⟨_, x, rfl, I.hok.fresh (Nat.le_refl _), rfl, fun ys hy => by rw [I.tuple_inj hy hq]; exact hx⟩, ⟨⟨u', ?_⟩, ?_, hne⟩, fun b hb => ?_⟩
    · have e1 : ((i + 1 : Nat) : Int) = (i : Int) + 1 := by omega
      rw [e1]; exact he'
    · obtain ⟨⟨o, q, r⟩, _⟩ := hs'
      exact ⟨o, (sb.2 it (Ne.symm hne)).trans q, r⟩
    · have hb' : b < s.heap.objs.size := by
        have e' : b = e ∨ b = it := by simpa using hb
        rcases e' with z | z
        · rw [z]; exact hel
        · rw [z]; exact hil
      rw [upd_ne (Nat.ne_of_lt hb')]
      exact (hf b hb).1
  done := by
    intro X hP hw hK hc i pins s σ H E I hf st hg
    subst hP hw hK
    obtain ⟨⟨old, he⟩, hit, hne⟩ := st
    obtain ⟨xs, hq, hx⟩ := hg
    obtain ⟨its, rv, p, hz⟩ := I.tuple hq
    have pt : s.heap.IsTuple a its.toArray := p
    have hai : a ≠ it := by
      rintro rfl
      obtain ⟨o, q, c, _⟩ := pt
      obtain ⟨o', q', c', _⟩ := hit
      rw [q] at q'
      cases q'
      rw [c] at c'
      injection c' with z
      exact absurd z (by decide)
    obtain ⟨f0, f1, f2, f3, f4, f5⟩ := hf it (by simp)
    have hl := rv.length
    have hend : its.toArray[i]? = none := by simp; omega
    unfold pyNext
    have hT : s.TypeIs (.ref e) "enumerate" := ⟨_, he, rfl⟩
    refine wpAny_bind (wpAny_attempt (wpAny_callSpecial?_slot (name := Str.ofString "__next__") hT F.slot_enumerate_next
      (wpAny_call_entry F.slot_enumerate_next hT F.entry_enumerate_next ?_ (F.args_enumerate_next_1 _))))
    show wpAny _ _ (field (.ref e) 2 >>= _) _ _ _
    refine wpAny_bind (wpAny_field he rfl (x := .ref it) rfl ?_)
    refine wpAny_bind (wpAny_nextOf_tuple_end (I.ok.hd hc) hit pt hend fun h' x he' hx' => ?_)
    obtain ⟨o, ho, hcc⟩ := hx'
    refine wpAny_bind (wpAny_isInstance (T := "StopIteration") (b := true) ⟨o, ho, hcc⟩ isSubtype_stop ?_)
    exact wpAny_pure ⟨rfl, I.turned (t' := s.toks) (fun b o hb q => he' b o hb q) f0 f1 f3 f4 f5⟩
  self := fun A i s Q E st h => let ⟨⟨_, he⟩, _⟩ := st; wpAny_pyIter_enum he h
/-- enumerate of a list or of a tuple -/
def iEnumA (K : PySem.W.Frag) (ta : TA) : TI := fun σ H R => ta σ H fun vs H1 => ∃ a xs, vs = [.ref a] ∧ ((SqL K H1 a xs ∧ R (Ite K a) H1) ∨ (SqT K H1 a xs ∧ R (IteT K a) H1))
theorem pi_enumA {X : Cx} {e : Expr} {ta : TA} {p pos tpos : Pos} {elts : List Expr} {kk : Nat} (hg : Gl X "enumerate") (hm : X.mg "enumerate" = none) (ha : PA X [e] ta) (hs : starEach [e] X.env = [(false, eval e X.env)] := by rfl) :
    PI X (.Tuple elts kk tpos) (.Call (.Name "enumerate" p) [e] [] pos) (iEnumA X.K ta) := by
  refine ⟨fun pins s σ H R I h => ?_⟩
  refine Call_ (ld_blt I hg hm boot_enumerate (PyProof.Rows.callWith_type1 (thn (ha.run pos pins s σ H _ I h) fun us s1 ⟨vs, H1, I1, r1, q1⟩ => ?_) hs rfl))
  obtain ⟨a, xs, ex, q1⟩ := q1
  subst ex
  cases r1 with
  | cons r rr =>
    cases rr
    cases r
    have fresh : ∀ b, b ∈ [s1.heap.objs.size + 1, s1.heap.objs.size] → FpOk X pins H1 b := fun b hb => by
      have e' : b = s1.heap.objs.size + 1 ∨ b = s1.heap.objs.size := by simpa using hb
      have hle : s1.heap.objs.size ≤ b := by omega
      exact I1.fpOk hle (I1.hok.fresh hle)
    rcases q1 with ⟨hq, q⟩ | ⟨hq, q⟩
    · obtain ⟨its, rv, p', hz⟩ := I1.list hq
      refine call_enumerate_list p'.isList fun h' he hit hsz hk => wpAny_pyIter_enum he ?_
      exact ⟨s1.heap.objs.size + 1, [s1.heap.objs.size + 1, s1.heap.objs.size], _, _, H1, rfl, I1.kept (t' := s1.toks) hk, turn_enum a (s1.heap.objs.size + 1) s1.heap.objs.size, ⟨⟨.none, he⟩, hit, Nat.succ_ne_self _⟩, fresh, q⟩
    · obtain ⟨its, rv, p', hz⟩ := I1.tuple hq
      refine dl_enum_call (show s1.heap.IsTuple a its.toArray from p') fun h' he hit hsz hk => wpAny_pyIter_enum he ?_
      exact ⟨s1.heap.objs.size + 1, [s1.heap.objs.size + 1, s1.heap.objs.size], _, _, H1, rfl, I1.kept (t' := s1.toks) hk, turn_enumT a (s1.heap.objs.size + 1) s1.heap.objs.size, ⟨⟨.none, he⟩, hit, Nat.succ_ne_self _⟩, fresh, q⟩
/-- range(n) as a value; a range object walked -/
theorem cr_range1 {X : Cx} : CallR X (.type "range") (fun vs H Q => ∃ j, vs = [V.int j] ∧ ∀ p, H p = none → Q (.ref p) (upd H p (.rng 0 j))) := by
  intro pins s σ H vs us Q I r h
  obtain ⟨j, rfl, q⟩ := h
  obtain ⟨u1, rfl, ri⟩ := vals1 r
  obtain ⟨t, rfl⟩ := ri
  refine call_range_1 ⟨.ref s.heap.objs.size, upd H s.heap.objs.size (.rng 0 j), I.laid (t' := s.toks + 1 + 1) (fun b o e => Heap.get?_push_of_some _ e) (Nat.le_refl _) ?_, rfl, q _ (I.hok.fresh (Nat.le_refl _))⟩
  exact ⟨_, _, _, Heap.get?_push_size _ rfl⟩
def iRngV (tl : TE) : TI := fun σ H R => tl σ H fun x H1 => ∃ a lo hi, x = .ref a ∧ H1 a = some (.rng lo hi) ∧ (-(2 ^ 62) ≤ lo ∧ lo < 2 ^ 62 ∧ -(2 ^ 62) ≤ hi ∧ hi < 2 ^ 62) ∧ R (Itr lo (hi - lo).toNat) H1
theorem pi_rngV {X : Cx} {tg l : Expr} {tl : TE} (hl : PE X l tl) : PI X tg l (iRngV tl) := by
  refine ⟨fun pins s σ H R I h => ?_⟩
  refine thn (hl.run pins s σ H _ I h) fun v s1 ⟨x, H1, I1, r1, q1⟩ => ?_
  obtain ⟨a, lo, hi, e, ha, ⟨h1, h2, h3, h4⟩, q⟩ := q1
  subst e
  cases r1
  obtain ⟨t1, t2, t3, ho⟩ := I1.hok a _ ha
  refine wpAny_pyIter_range (show IsRange s1.heap a lo hi 1 t1 t2 t3 from ho) (small_one h1 h2 h3 h4) ?_
  refine ⟨s1.heap.objs.size, [s1.heap.objs.size], _, _, H1, rfl, I1.kept (t' := s1.toks) fun b o e => Heap.get?_push_of_some _ e, turn_range _ lo (hi - lo).toNat, ?_, fun b hb => ?_, q⟩
  · have e1 : lo + ((0 : Nat) : Int) * 1 = lo := by simp
    have e2 : (((hi - lo).toNat : Nat) : Int) - ((0 : Nat) : Int) = Builtin.Range.rangeSize lo hi 1 := by rw [rangeSize_one]; split <;> omega
    show IsRangeIter _ _ (lo + ((0 : Nat) : Int) * 1) ((((hi - lo).toNat : Nat) : Int) - ((0 : Nat) : Int)) 1
    rw [e1, e2]
    exact Heap.get?_push_size _ rfl
  · have e : b = s1.heap.objs.size := by simpa using hb
    subst e
    exact I1.fpOk (Nat.le_refl _) (I1.hok.fresh (Nat.le_refl _))
end L2

namespace L2
open PySem PySem.Spec PyProof.Rows
theorem truth_ints {prog : Program} {w : World} {A : Around} {ns : List Int} {its : List Value} (e : IntsAre its ns) :
    TruthOf prog w A (fun i v => its.toArray[i]? = some v) (fun i => ns.getD i 0 != 0) := fun i v s Q E hv hq => by
  have hv' : its[i]? = some v := by simpa using hv
  have hlt : i < ns.length := by
    have h1 := (List.getElem?_eq_some_iff.mp hv').1
    have h2 := IntsAre.length e
    omega
  obtain ⟨t, ht⟩ := e.get i _ (List.getElem?_eq_getElem hlt)
  rw [hv'] at ht
  have ev : v = .int ns[i] t := Option.some.inj ht
  subst ev
  have hg : (fun i => ns.getD i 0 != 0) i = (ns[i] != 0) := by
    show (ns.getD i 0 != 0) = _
    rw [List.getD_eq_getElem?_getD, List.getElem?_eq_getElem hlt] <;> rfl
  rw [hg] at hq
  exact PySem.P.truthy_int hq
theorem any_ints (ns : List Int) : (List.range ns.length).any (fun i => ns.getD i 0 != 0) = ns.any (· != 0) := by
  rw [Bool.eq_iff_iff]
  simp only [List.any_eq_true, List.mem_range]
  constructor
  · rintro ⟨i, hi, h⟩
    refine ⟨ns[i], List.getElem_mem hi, ?_⟩
    rw [List.getD_eq_getElem?_getD, List.getElem?_eq_getElem hi] at h
    exact h
  · rintro ⟨x, hx, h⟩
    obtain ⟨i, hi, e⟩ := List.mem_iff_getElem.mp hx
    refine ⟨i, hi, ?_⟩
    rw [List.getD_eq_getElem?_getD, List.getElem?_eq_getElem hi, e]
    exact h
def rAnyI (K : PySem.W.Frag) : List V → Hp → VK → Prop := fun vs H Q => ∃ (a : Addr) (ns : List Int), vs = [V.ref a] ∧ SqL K H a (ns.map V.int) ∧ Q (.bl (ns.any (· != 0))) H
theorem cr_anyI {X : Cx} (hc : X.calm = true) : CallR X (.builtin "any") (rAnyI X.K) := by
  intro pins s σ H vs us Q I r h
  obtain ⟨a, ns, rfl, hs, q⟩ := h
  obtain ⟨its, rv, hl, _⟩ := I.list hs
  rw [Vals.ref1 r]
  have hi := ints_of_vals rv
  refine call_any_walk (iter_any hl.isList fun s₂ e2 st hne => ?_)
  subst e2
  refine ⟨_, _, _, _, _, _, _, rfl, Walks.list (A := X.A.in1) (I.ok.hd hc) _ a hne its.toArray, st, truth_ints hi, fun h' tk hk => ?_⟩
  refine ⟨.bl _, H, I.kept fun b o eo => hk b o (fun hmem => ?_) (Heap.get?_push_of_some _ eo), ?_, q⟩
  · rcases List.mem_cons.mp hmem with e1 | hmem
    · exact absurd (e1 ▸ Heap.lt_size eo) (Nat.lt_irrefl _)
    · cases hmem
  · show Value.bool _ = Value.bool _
    have hz : its.toArray.size = ns.length := by have := IntsAre.length hi; simpa using this
    rw [hz, any_ints]
/-! ### len(set(x)), x a list or a tuple of any ints -/
theorem nub_iff (ns : List Int) : ∀ i, i ≤ ns.length → (PyProof.Rows.firstMet (fun i => ns.getD i 0) i).length ≤ i ∧ (∀ k, k ∈ PyProof.Rows.firstMet (fun i => ns.getD i 0) i ↔ k ∈ ns.take i) ∧
    ((PyProof.Rows.firstMet (fun i => ns.getD i 0) i).length = i ↔ (ns.take i).Nodup)
  | 0, _ => ⟨Nat.le_refl _, fun k => by simp [PyProof.Rows.firstMet_zero], by simp [PyProof.Rows.firstMet_zero]⟩
  | i + 1, hi => by
    have hlt : i < ns.length := hi
    obtain ⟨h1, h2, h3⟩ := nub_iff ns i (Nat.le_of_lt hlt)
    have e1 : ns.getD i 0 = ns[i] := by rw [List.getD_eq_getElem?_getD, List.getElem?_eq_getElem hlt] <;> rfl
    have e2 : ns.take (i + 1) = ns.take i ++ [ns[i]] := by rw [List.take_add_one, List.getElem?_eq_getElem hlt] <;> rfl
    have e3 : PyProof.Rows.firstMet (fun i => ns.getD i 0) (i + 1) = if (PyProof.Rows.firstMet (fun i => ns.getD i 0) i).any (· == ns[i]) then PyProof.Rows.firstMet (fun i => ns.getD i 0) i else PyProof.Rows.firstMet (fun i => ns.getD i 0) i ++ [ns[i]] := by
      rw [PyProof.Rows.firstMet_succ]
      show PyProof.Rows.step_dedup _ (ns.getD i 0) = _
      rw [e1]
      rfl
    have hany : (PyProof.Rows.firstMet (fun i => ns.getD i 0) i).any (· == ns[i]) = true ↔ ns[i] ∈ ns.take i := by
      rw [List.any_eq_true]
      constructor
      · rintro ⟨y, hy, e⟩
        rw [eq_of_beq e] at hy
        exact (h2 _).mp hy
      · intro h
        exact ⟨_, (h2 _).mpr h, beq_self_eq_true _⟩
    rw [e3, e2]
    by_cases hm : ns[i] ∈ ns.take i
    · rw [if_pos (hany.mpr hm)]
      refine ⟨Nat.le_succ_of_le h1, fun k => ?_, ?_⟩
      · rw [List.mem_append, h2 k]
        constructor
        · exact Or.inl
        · rintro (h | h)
          · exact h
          · rw [List.mem_singleton.mp h]; exact hm
      · constructor
        · intro h; omega
        · intro h
          exact absurd hm ((List.nodup_append.mp h).2.2 _ · _ (List.mem_singleton_self _) rfl)
    · rw [if_neg (fun h => hm (hany.mp h))]
      refine ⟨by rw [List.length_append, List.length_singleton]; omega, fun k => ?_, ?_⟩
      · rw [List.mem_append, List.mem_append, h2 k]
      · rw [List.length_append, List.length_singleton, Nat.add_right_cancel_iff, h3, List.nodup_append]
        constructor
        · intro h
          refine ⟨h, by simp, fun a ha b hb e => ?_⟩
          rw [List.mem_singleton.mp hb] at e
          exact hm (e ▸ ha)
        · intro h; exact h.1
theorem perm_of_nodup_sub : ∀ (l ns : List Int), l.Nodup → (∀ k, k ∈ l → k ∈ ns) → ns.length ≤ l.length → ns.Perm l
  | [], ns, _, _, h => by
    have e : ns = [] := List.length_eq_zero_iff.mp (by simpa using h)
    rw [e]
  | a :: l, ns, hnd, hs, h => by
    obtain ⟨ha, hl⟩ := List.nodup_cons.mp hnd
    have hm : a ∈ ns := hs a List.mem_cons_self
    have p := List.perm_cons_erase hm
    have hlen := p.length_eq
    simp only [List.length_cons] at hlen h
    exact p.trans (.cons a (perm_of_nodup_sub l (ns.erase a) hl (fun k hk => (List.mem_erase_of_ne (show k ≠ a from fun e => ha (by rw [← e]; exact hk))).mpr (hs k (List.mem_cons_of_mem _ hk))) (by omega)))
def tLenSetA (K : PySem.W.Frag) (ta : TE) : TE := fun σ H Q => ta σ H fun x H1 => ∃ (l : Addr) (ns : List Int), x = .ref l ∧ SqA K H1 l (ns.map V.int) ∧ ns.length ≤ 4000 ∧ ∀ m : Nat, (m = ns.length ↔ ns.Nodup) → Q (.int m) H1
theorem pe_lenSetA {X : Cx} {a : Expr} {ta : TE} {p p2 q pos : Pos} (hg : Gl X "len") (hm : X.mg "len" = none) (hg2 : Gl X "set") (hm2 : X.mg "set" = none) (ha : PE X a ta) (hc : X.calm = true := by rfl)
    (na : starEach [a] X.env = (false, eval a X.env) :: starEach [] X.env := by rfl) : PE X (.Call (.Name "len" p) [.Call (.Name "set" p2) [a] [] q] [] pos) (tLenSetA X.K ta) := by
  refine ⟨fun pins s σ H Q I h => ?_⟩
  refine Call_ (ld_blt I hg hm boot_len ?_)
  refine PyProof.Rows.callWith_builtin1 (PyProof.Rows.args_cons ?_ rfl) rfl rfl
  refine Call_ (ld_blt I hg2 hm2 boot_set ?_)
  refine PyProof.Rows.callWith_type1 (PyProof.Rows.args_cons (thn (ha.run pins s σ H _ I h) fun v s1 ⟨x, H1, I1, r1, q1⟩ => PyProof.Rows.args_nil ?_) na) na rfl
  obtain ⟨l, ns, rfl, hq, hl, q1⟩ := q1
  cases r1
  rcases hq with hq | hq
  · obtain ⟨its, r, pl, hz⟩ := I1.list hq
    have hlen : its.toArray.size = ns.length := by rw [List.size_toArray, ← r.length, List.length_map]
    refine call_set_list (I1.ok.hd hc) pl.isList (by simpa using ints_of_vals r) (by rw [hlen]; unfold scanBound; omega) fun h' tk hS hk => ?_
    refine PyProof.Rows.args_nil ?_
    rw [hlen] at hS
    obtain ⟨n1, n2, n3⟩ := nub_iff ns ns.length (Nat.le_refl _)
    rw [List.take_length] at n3
    obtain ⟨o, es, ep, t, ho, hex, hd, _, _, _, hf, hn⟩ := hS
    have I2 : Inv X pins σ H1 { s1 with heap := h', toks := tk } := I1.kept fun b o e => hk b o (Heap.lt_size e) e
    exact call_len_set ho hex hd hf (by rw [hn]; omega) ⟨.int es.size, H1, I2.tok _, ⟨_, rfl⟩, q1 _ (by rw [hn]; exact n3)⟩
  · obtain ⟨its, r, pl, hz⟩ := I1.tuple hq
    have hi : IntsAre its.toArray.toList ns := ints_of_vals r
    refine call_set_tupI ns (I1.ok.hd hc) (show s1.heap.IsTuple l its.toArray from pl) hi (by unfold scanBound; omega) fun h' tk c R1 hcn k => ?_
    refine PyProof.Rows.args_nil ?_
    obtain ⟨o, es, ep, t, ho, hex, hd, g, nd, hm3, hb, hf, hn, _, _⟩ := R1
    have I2 : Inv X pins σ H1 { s1 with heap := h', toks := tk } := I1.kept k
    refine call_len_set ho hex hd hf (by omega) ⟨.int es.size, H1, I2.tok _, ⟨_, rfl⟩, q1 _ ?_⟩
    have hsub : ∀ k, k ∈ es.toList.map keyOf ↔ k ∈ ns := fun k => by rw [← hm3 k]; exact decide_eq_true_iff
    have hsz : (es.toList.map keyOf).length = es.size := by simp
    constructor
    · intro e
      have hp := perm_of_nodup_sub (es.toList.map keyOf) ns nd (fun k hk => (hsub k).mp hk) (by omega)
      exact hp.nodup_iff.mpr nd
    · intro hnd
      have hp := (List.perm_ext_iff_of_nodup nd hnd).mpr hsub
      rw [← hsz]
      exact hp.length_eq
end L2

namespace L2
open PySem PySem.Spec PyProof.Rows
/-! ### try with clauses, each with a name or without -/
abbrev Clause := Value × Option Nat × (Addr → Value → Option Addr → TS)
def cut1 (D : Ends) (i : Nat) : Ends := { nx := fun σ' H' => D.nx (σ'.set i none) H', rt := D.rt, bk := fun σ' H' => D.bk (σ'.set i none) H', ct := fun σ' H' => D.ct (σ'.set i none) H' }
def wMix (K : PySem.W.Frag) (Wout : WX) (D : Ends) : List Clause → WX
  | [] => Wout
  | (c, none, ts) :: r => fun cls d σ H => ∃ b, PySem.W.exmOne K cls c = some b ∧ (b = true → ∀ a, H a = none → ts a cls d D σ H) ∧ (b = false → wMix K Wout D r cls d σ H)
  | (c, some i, ts) :: r => fun cls d σ H => ∃ b, PySem.W.exmOne K cls c = some b ∧ (b = true → ∀ a, H a = none → ts a cls d (cut1 D i) (σ.set i (some (.ref a))) H) ∧ (b = false → wMix K Wout D r cls d σ H)
inductive HdsMix (X : Cx) : List ExceptHandler → List Clause → Prop
  | nil : HdsMix X [] []
  | bare {x : Str} {c : Value} {ts : Addr → Value → Option Addr → TS} {b₀ : Stmt} {suite : List Stmt} {np pos' : Pos} {hds : List ExceptHandler} {l : List Clause} (hc : Names X x c)
      (hsu : ∀ (a : Addr) (oe : Obj) (cls : Value) (d : Option Addr) (pn : List (Addr × Obj)), Zc cls d oe → (∃ vs, oe.data = .fields vs) → PSs (X.suite a ((a, oe) :: pn)) (b₀ :: suite) (ts a cls d)) (r : HdsMix X hds l) :
      HdsMix X (.ExceptHandler (some (.Name x np)) none (b₀ :: suite) pos' :: hds) ((c, none, ts) :: l)
  | named {x n : Str} {c : Value} {i : Nat} {ts : Addr → Value → Option Addr → TS} {b₀ : Stmt} {suite : List Stmt} {np pos' : Pos} {hds : List ExceptHandler} {l : List Clause} (hi : X.N[i]? = some n) (hln : X.env.kindOf n = some .local) (hc : Names X x c)
      (hsu : ∀ (a : Addr) (oe : Obj) (cls : Value) (d : Option Addr) (pn : List (Addr × Obj)), Zc cls d oe → (∃ vs, oe.data = .fields vs) → PSs (X.suite a ((a, oe) :: pn)) (b₀ :: suite) (ts a cls d)) (r : HdsMix X hds l) :
      HdsMix X (.ExceptHandler (some (.Name x np)) (some n) (b₀ :: suite) pos' :: hds) ((c, some i, ts) :: l)
section
variable {X : Cx} {body : List Stmt} {h₀ : ExceptHandler} {hds : List ExceptHandler} {l : List Clause} {pos : Pos} {tb : WX → TS} {Wout : WX}
theorem ps_try_mix (hs : X.stack = X.env :: X.outer) (hf : X.env.frame = some X.env.locals) (hN : X.N.Nodup) (tk : Takes X Wout)
    (hb : ∀ (W : WX) (pn : List (Addr × Obj)) (xe : Value → Shared → Prop), Takes (X.tr pn xe) W → PassesOwn (model X.prog X.w) X.A X.env xe → PSs (X.tr pn xe) body (tb W))
    (hh : HdsMix X (h₀ :: hds) l) : PS X (.Try body (h₀ :: hds) [] [] pos) (fun D σ H => tb (wMix X.K Wout D l) D σ H) := by
  refine ⟨fun pins s σ H D I h => ?_⟩
  have ok := I.ok
  have hfr : X.A.frames = some (X.env :: X.outer) := by rw [ok.frames, hs]
  refine wpAny_Try_except ?_
  refine wpAny_mono ((hb (wMix X.K Wout D l) (X.pn ++ pins) (fun e s₁ => wpAny (model X.prog X.w) X.A (noteFrame e X.env) (fun _ s₂ => wpAny (model X.prog X.w) X.A (setFlight e none) (fun _ s₃ =>
    wpAny (model X.prog X.w) X.A (handleBy e X.env (h₀ :: hds)) (SP X pins D) X.xe s₃) X.xe s₂) X.xe s₁) (fun u s' xx => ?_) PassesOwn.looking).run [] s σ H D (I.toTry _) h) (fun f s1 hsp => ?_) (fun e s1 he => he)
  · obtain ⟨a, B, sI, pins', σ', H', cls, d, rfl, J', nb, up, sky, na, os, ag, w⟩ := xx
    have J : Inv X pins σ' H' sI := J'.ofTry ok
    have sky' : Sky B (X.env :: X.outer) a (Zc cls d) X.env.locals s'.heap := by rw [← hs]; exact sky
    show wpAny (model X.prog X.w) X.A (noteFrame (.ref a) X.env) _ _ _
    refine Sky.land Zc.steady hfr hf sky' fun h3 fl3 up3 => ?_
    have J3 : Inv X pins σ' H' { s' with heap := h3 } := J.landed nb fl3.1 (up.trans up3) os ag
    obtain ⟨oe3, vs3, he3, hz3, hd3⟩ := fl3.there
    have nfr : a ∉ frs (X.env :: X.outer) := fun hm => by
      obtain ⟨_, o', e', hnf⟩ := fl3.2.2.1.mem hm
      rw [he3] at e'
      cases e'
      exact hnf _ hd3
    have nL : a ≠ X.env.locals := fun z => nfr (List.mem_filterMap.mpr ⟨X.env, List.mem_cons_self, by rw [hf, z]⟩)
    have nF : a ∉ X.fs := fun hm => by
      obtain ⟨e, he, q⟩ := List.mem_filterMap.mp hm
      exact nfr (List.mem_filterMap.mpr ⟨e, List.mem_cons_of_mem _ he, q⟩)
    have S3 := J3.suite he3 hd3 na nL nF
    have LT : PySem.W.Looks (model X.prog X.w) h3 (typeOf (.ref a)) cls := fun A Q E s k q => wpAny_typeOf_ref (k _ _ he3) (by rw [hz3.1]; exact q)
    have test : ∀ {x : Str} {c : Value} {np : Pos}, Names X x c → ∀ {Q : Value → Shared → Prop} {E : Value → Shared → Prop}, Q c { s' with heap := h3 } → wpAny (model X.prog X.w) (X.A.mark (some (.ref a))) (eval (.Name x np) X.env) Q E { s' with heap := h3 } := fun {x c np} hc {Q E} q => by
      obtain ⟨hg, hdbg, hm | ⟨hm, hv, hnn⟩⟩ := hc
      · exact ld_glob (X := X.suite a ((a, oe3) :: (X.pn ++ pins))) S3 hg hm q hdbg
      · exact ld_blt (X := X.suite a ((a, oe3) :: (X.pn ++ pins))) S3 hg hm hv q hnn hdbg
    have go : ∀ {hds' : List ExceptHandler} {l' : List Clause}, HdsMix X hds' l' → wMix X.K Wout D l' cls d σ' H' →
        wpAny (model X.prog X.w) X.A (handleBy (.ref a) X.env hds') (SP X pins D) X.xe { s' with heap := h3 } := by
      intro hds' l' hk
      induction hk with
      | nil =>
        intro w
        refine wpAny_handleBy_nil ?_
        obtain ⟨k1, k2, k3, oe, vs, T, oT, ts', he, hz, hd, h1, hr⟩ := id fl3
        unfold PySem.passOn
        refine wpAny_bind (wpAny_field he hd h1 ?_)
        rw [if_neg (show ¬ ((Value.ref T == Value.none) = true) from by simp)]
        have fin : wpAny (model X.prog X.w) X.A (setFlight (.ref a) X.env.frame) (fun _ s4 => wpAny (model X.prog X.w) X.A (throw (.ref a) : Sem Flow) (SP X pins D) X.xe s4) X.xe { s' with heap := h3 } := by
          rw [hf]
          refine HandSPX.setFlight_upZ fl3 fun h4 hh4 up4 => wpAny_throw (tk _ _ ?_)
          exact ⟨a, B, sI, pins, σ', H', cls, d, rfl, J, nb, (up.trans up3).trans up4, .inr (.inr (by rw [hs]; exact hh4)), na, os, ag, w⟩
        first
          | exact wpAny_bind (wpAny_pure (wpAny_bind fin))
          | exact wpAny_bind fin
      | @bare x c ts b₀ suite np pos' hds2 l2 hc hsu r ih =>
        intro w
        obtain ⟨b, hb1, hyes, hno⟩ := w
        refine wpAny_handleBy_cons (codeAny_handlers_test ?_) (by intro q; cases q)
        have LM := PySem.W.exm_one (M := model X.prog X.w) (J3.kIn) LT hb1
        refine test hc (LM.here ?_)
        cases b with
        | true =>
          refine codeAny_handlers_suite ?_
          refine HandSPX.lands_againZ fl3 fun h4 fl4 up4 => ?_
          have J4 : Inv X pins σ' H' { s' with heap := h4 } := J.landed nb fl4.1 ((up.trans up3).trans up4) os ag
          obtain ⟨oe4, vs4, he4, hz4, hd4⟩ := fl4.there
          have S4 := J4.suite he4 hd4 na nL nF
          refine wpAny_mono ((hsu a oe4 cls d (X.pn ++ pins) hz4 ⟨_, hd4⟩).run [] _ _ H' _ S4 (hyes rfl a na)) (fun f s6 hsp => ?_) (fun _ _ z => False.elim z)
          cases f with
          | next =>
            obtain ⟨σ6, H6, S6, q6⟩ := hsp
            exact ⟨_, _, S6.unsuite ok, q6⟩
          | brk =>
            obtain ⟨σ6, H6, S6, q6⟩ := hsp
            exact ⟨_, _, S6.unsuite ok, q6⟩
          | cont =>
            obtain ⟨σ6, H6, S6, q6⟩ := hsp
            exact ⟨_, _, S6.unsuite ok, q6⟩
          | ret u =>
            obtain ⟨v6, σ6, H6, S6, r6, q6⟩ := hsp
            exact ⟨_, _, _, S6.unsuite ok, r6, q6⟩
        | false =>
          show wpAny _ X.A (handleBy (.ref a) X.env hds2) _ _ _
          exact ih (hno rfl)
      | @named x n c i ts b₀ suite np pos' hds2 l2 hi hln hc hsu r ih =>
        intro w
        obtain ⟨b, hb1, hyes, hno⟩ := w
        refine wpAny_handleBy_cons (codeAny_handlers_test ?_) (by intro q; cases q)
        have LM := PySem.W.exm_one (M := model X.prog X.w) (J3.kIn) LT hb1
        refine test hc (LM.here ?_)
        have hloc : Loc X.env.scope n := .inl hln
        cases b with
        | true =>
          refine codeAny_handlers_suite_as ?_
          refine HandSPX.lands_againZ fl3 fun h4 fl4 up4 => ?_
          have J4 : Inv X pins σ' H' { s' with heap := h4 } := J.landed nb fl4.1 ((up.trans up3).trans up4) os ag
          obtain ⟨oe4, vs4, he4, hz4, hd4⟩ := fl4.there
          have S4 := J4.suite he4 hd4 na nL nF
          refine store_ok (X := X.suite a ((a, oe4) :: (X.pn ++ pins))) (v := .ref a) S4 hN hi hloc rfl (fun s5 S5 => ?_) (.inr hln)
          refine wpAny_mono ((hsu a oe4 cls d (X.pn ++ pins) hz4 ⟨_, hd4⟩).run [] s5 _ H' _ S5 (hyes rfl a na)) (fun f s6 hsp => ?_) (fun _ _ z => False.elim z)
          have end_ : ∀ {σ6 : St} {H6 : Hp} {Q : Shared → Prop}, Inv (X.suite a ((a, oe4) :: (X.pn ++ pins))) [] σ6 H6 s6 → (∀ s7, Inv X pins (σ6.set i none) H6 s7 → Q s7) →
              wpAny (model X.prog X.w) X.A (do bindName X.env n .none; unbindBehindTheSuite X.env n pos') (fun _ s7 => Q s7) X.xe s6 := fun {σ6 H6 Q} S6 hq => gone_ok (S6.unsuite ok) hN hi hln hq
          cases f with
          | next =>
            obtain ⟨σ6, H6, S6, q6⟩ := hsp
            exact end_ S6 fun s7 J7 => ⟨_, _, J7, q6⟩
          | brk =>
            obtain ⟨σ6, H6, S6, q6⟩ := hsp
            exact end_ S6 fun s7 J7 => ⟨_, _, J7, q6⟩
          | cont =>
            obtain ⟨σ6, H6, S6, q6⟩ := hsp
            exact end_ S6 fun s7 J7 => ⟨_, _, J7, q6⟩
          | ret u =>
            obtain ⟨v6, σ6, H6, S6, r6, q6⟩ := hsp
            exact end_ S6 fun s7 J7 => ⟨_, _, _, J7, r6, q6⟩
        | false =>
          show wpAny _ X.A (handleBy (.ref a) X.env hds2) _ _ _
          exact ih (hno rfl)
    exact go hh w
  · cases f with
    | next =>
      obtain ⟨σ', H', J', q⟩ := hsp
      exact wpAny_execs_nil ⟨σ', H', J'.ofTry ok, q⟩
    | brk =>
      obtain ⟨σ', H', J', q⟩ := hsp
      exact ⟨σ', H', J'.ofTry ok, q⟩
    | cont =>
      obtain ⟨σ', H', J', q⟩ := hsp
      exact ⟨σ', H', J'.ofTry ok, q⟩
    | ret u =>
      obtain ⟨v, σ', H', J', r, q⟩ := hsp
      exact ⟨v, σ', H', J'.ofTry ok, r, q⟩
end
end L2
set_option maxRecDepth 100000
set_option maxHeartbeats 4000000
/-! Small words of our own: calls by a bundle, heaps that only grow, plain values, sequences. -/
namespace L2
open PySem PySem.Spec PyProof.Rows
/-- the top's def x keeps sp -/
structure CalD (P : Program) (w : World) (K : PySem.W.Frag) (mg : Str → Option Value) (base : Heap) (CX : CXT) (k : Nat) (x : Str) (sp : Sp) : Prop where
  ex : ∃ (f : Addr) (fd : FuncData) (ps : List Str), FnOk P w K mg base CX k f fd ps sp ∧ mg x = some (.ref f) ∧ PySem.W.keepIn K (.ref f) = true ∧ Binds K fd ps []
theorem CalD.imp {P : Program} {w : World} {K : PySem.W.Frag} {mg : Str → Option Value} {base : Heap} {CX : CXT} {k : Nat} {x : Str} {sp sp' : Sp} (c : CalD P w K mg base CX k x sp) (h : ∀ vs H Q E, sp' vs H Q E → sp vs H Q E) : CalD P w K mg base CX k x sp' :=
  let ⟨f, fd, ps, F, a, b, d⟩ := c.ex
  ⟨f, fd, ps, F.imp h, a, b, d⟩
section
variable {X : Cx} {CX : CXT} {k j : Nat} {sp : Sp} {E : XK} {x : Str} {p pos : Pos} {e : Expr} {es : List Expr} {t : TA}
theorem pe_f (c : CalD X.prog X.w X.K X.mg X.base CX k x sp) (hr : Room j X.A) (hk : k ≤ j) (hx : Passes CX X E) (hg : Gl X x) (ha : PA X (e :: es) t)
    (hdb : (x == ("__debug__" : Str)) = false := by decide) (he : starEach (e :: es) X.env = (false, eval e X.env) :: starEach es X.env := by rfl) (hpl : (backTo pos (starEach es X.env)).any (·.1) = false := by rfl) :
    PE X (.Call (.Name x p) (e :: es) [] pos) (tCall sp [] E t) := by
  obtain ⟨f, fd, ps, F, hm, hkp, hb⟩ := c.ex
  exact pe_call F (hr.mono hk) hg hm hkp hb .nil hx ha hdb he hpl
theorem pe_fS (c : CalD X.prog X.w X.K X.mg X.base CX k x sp) (hr : Room j X.A) (hk : k ≤ j) {E : St → XK} (hx : ∀ σ, PassesAt CX X σ (E σ)) (hg : Gl X x) (ha : PA X (e :: es) t)
    (hdb : (x == ("__debug__" : Str)) = false := by decide) (he : starEach (e :: es) X.env = (false, eval e X.env) :: starEach es X.env := by rfl) (hpl : (backTo pos (starEach es X.env)).any (·.1) = false := by rfl) :
    PE X (.Call (.Name x p) (e :: es) [] pos) (tCallS sp E t) := by
  obtain ⟨f, fd, ps, F, hm, hkp, hb⟩ := c.ex
  exact pe_callS F (hr.mono hk) hg hm hkp hb hx ha hdb he hpl
end
/-- a class of the top, made by its __init__ -/
structure MakD (P : Program) (w : World) (K : PySem.W.Frag) (mg : Str → Option Value) (base : Heap) (CX : CXT) (k : Nat) (x : Str) (C : Addr) (sp : Sp) : Prop where
  ex : ∃ (f : Addr) (fd : FuncData) (ps : List Str), Mk K C f ∧ FnOk P w K mg base CX k f fd ps sp ∧ mg x = some (.ref C) ∧ Binds K fd ps []
theorem pe_new {X : Cx} {CX : CXT} {k j : Nat} {C : Addr} {sp : Sp} {E : XK} {x : Str} {p pos : Pos} {e : Expr} {es : List Expr} {t : TA} (c : MakD X.prog X.w X.K X.mg X.base CX k x C sp) (hr : Room j X.A) (hk : k + 1 ≤ j) (hx : Passes CX X E) (hg : Gl X x) (ha : PA X (e :: es) t)
    (hdb : (x == ("__debug__" : Str)) = false := by decide) (he : starEach (e :: es) X.env = (false, eval e X.env) :: starEach es X.env := by rfl) (hpl : (backTo pos (starEach es X.env)).any (·.1) = false := by rfl) :
    PE X (.Call (.Name x p) (e :: es) [] pos) (tMake C sp [] E t) := by
  obtain ⟨f, fd, ps, M, F, hm, hb⟩ := c.ex
  exact pe_make M F (hr.mono hk) hg hm hb .nil hx ha hdb he hpl
/-! ### heaps -/
theorem Same.new {H : Hp} {p : Addr} {o : HO} (h : H p = none) : Same H (upd H p o) := fun b u e => by
  rw [upd_ne (ne_of_none e h)]
  exact e
theorem Same.mut {H H' : Hp} {p : Addr} {o : HO} (s : Same H H') (h : H p = none) : Same H (upd H' p o) := fun b u e => by
  rw [upd_ne (ne_of_none e h)]
  exact s b u e
theorem Same.add {H H' : Hp} {p : Addr} {o : HO} (s : Same H H') (h : H' p = none) : Same H (upd H' p o) := s.mut (s.free h)
theorem Same.tup {K : PySem.W.Frag} {H H' : Hp} {a : Addr} {xs : List V} (e : Same H H') (h : SqT K H a xs) : SqT K H' a xs := by
  rcases h with (h | ⟨o, h⟩) | h
  · exact .inl (.inl (e _ _ h))
  · exact .inl (.inr ⟨o, e _ _ h⟩)
  · exact .inr h
/-- all but p stands -/
def Save (p : Addr) (H H' : Hp) : Prop := ∀ b o, b ≠ p → H b = some o → H' b = some o
theorem Save.refl {p : Addr} {H : Hp} : Save p H H := fun _ _ _ e => e
theorem Save.trans {p : Addr} {H H1 H2 : Hp} (a : Save p H H1) (b : Save p H1 H2) : Save p H H2 := fun c o n e => b c o n (a c o n e)
theorem Same.save {p : Addr} {H H' : Hp} (s : Same H H') : Save p H H' := fun b o _ e => s b o e
theorem Save.upd_self {p : Addr} {H H' : Hp} {o : HO} (s : Save p H H') : Save p H (upd H' p o) := fun b u n e => by
  rw [upd_ne n]
  exact s b u n e
theorem Save.free {p b : Addr} {H H' : Hp} {o : HO} (s : Save p H H') (hp : H p = some o) (h : H' b = none) (hp' : H' p ≠ none) : H b = none := by
  cases q : H b with
  | none => rfl
  | some u =>
    by_cases e : b = p
    · rw [e] at h; exact absurd h hp'
    · rw [s b u e q] at h; cases h
/-! ### a list or a tuple of the heap -/
def Seq (H : Hp) (a : Addr) (xs : List V) : Prop := H a = some (.lst xs) ∨ H a = some (.tup xs)
theorem Seq.same {H H' : Hp} {a : Addr} {xs : List V} (h : Seq H a xs) (s : Same H H') : Seq H' a xs := h.imp (s _ _) (s _ _)
theorem Seq.sq {K : PySem.W.Frag} {H : Hp} {a : Addr} {xs : List V} (h : Seq H a xs) : SqA K H a xs := h.imp SqL.of SqT.of
theorem Seq.ne_none {H : Hp} {a : Addr} {xs : List V} (h : Seq H a xs) : ∃ o, H a = some o := h.elim (fun h => ⟨_, h⟩) fun h => ⟨_, h⟩
/-- what isinstance is asked of here -/
inductive Pl (H : Hp) : V → Prop
  | non : Pl H .non
  | bl (b : Bool) : Pl H (.bl b)
  | int (i : Int) : Pl H (.int i)
  | str (s : Str) : Pl H (.str s)
  | sq {a : Addr} {xs : List V} (h : Seq H a xs) : Pl H (.ref a)
theorem Pl.same {H H' : Hp} {v : V} (h : Pl H v) (s : Same H H') : Pl H' v := by
  cases h with
  | non => exact .non
  | bl b => exact .bl b
  | int i => exact .int i
  | str x => exact .str x
  | sq h => exact .sq (h.same s)
def kiI : V → Bool
  | .int _ => true
  | .bl _ => true
  | _ => false
def kiB : V → Bool
  | .bl _ => true
  | _ => false
def kiS : V → Bool
  | .ref _ => true
  | _ => false
theorem ki_int {K : PySem.W.Frag} {H : Hp} {v : V} (h : Pl H v) : ∃ t, TyX K H v t ∧ PySem.W.kitOne K t (.type "int") = some (kiI v) ∧ PySem.W.kitOne K t (.type "bool") = some (kiB v) ∧ PySem.W.kitAny K t [.type "list", .type "tuple"] = some (kiS v) := by
  have no : ∀ {t : String}, kitB t "list" = some false → kitB t "tuple" = some false → PySem.W.kitAny K (.type t) [.type "list", .type "tuple"] = some false := fun {t} h1 h2 =>
    kitAny_cons (b := false) (kit_ty h1) (fun _ => kitAny_cons (b := false) (kit_ty h2) (fun _ => kitAny_nil) (fun z => nomatch z)) (fun z => nomatch z)
  cases h with
  | non => exact ⟨_, .base .non, kit_ty (r := false) (by decide +kernel), kit_ty (r := false) (by decide +kernel), no (by decide +kernel) (by decide +kernel)⟩
  | bl b => exact ⟨_, .base (.bl b), kit_ty (r := true) (by decide +kernel), kit_ty (r := true) (by decide +kernel), no (by decide +kernel) (by decide +kernel)⟩
  | int i => exact ⟨_, .base (.int i), kit_ty (r := true) (by decide +kernel), kit_ty (r := false) (by decide +kernel), no (by decide +kernel) (by decide +kernel)⟩
  | str x => exact ⟨_, .base (.str x), kit_ty (r := false) (by decide +kernel), kit_ty (r := false) (by decide +kernel), no (by decide +kernel) (by decide +kernel)⟩
  | sq h =>
    rcases h with h | h
    · exact ⟨_, .base (.lst h), kit_ty (r := false) (by decide +kernel), kit_ty (r := false) (by decide +kernel), kitAny_cons (b := true) (kit_ty (by decide +kernel)) (fun z => nomatch z) (fun _ => rfl)⟩
    · exact ⟨_, .base (.tup h), kit_ty (r := false) (by decide +kernel), kit_ty (r := false) (by decide +kernel),
        kitAny_cons (b := false) (kit_ty (by decide +kernel)) (fun _ => kitAny_cons (b := true) (kit_ty (by decide +kernel)) (fun z => nomatch z) (fun _ => rfl)) (fun z => nomatch z)⟩
/-- is_number's word -/
def numB (v : V) (lo hi : Int) : Bool := match v with
  | .int i => decide (lo ≤ i) && decide (i ≤ hi)
  | _ => false
theorem if_t {c : Prop} [Decidable c] {A B : Prop} (h : c) (a : A) : if c then A else B := by rw [if_pos h]; exact a
theorem if_f {c : Prop} [Decidable c] {A B : Prop} (h : ¬ c) (b : B) : if c then A else B := by rw [if_neg h]; exact b
/-! ### comprehensions whose items are plain values -/
def LcGoal (J : It) (g : TG) (tt : TT) (te : TE) (vs : List Nat) (σ : St) (H1 : Hp) (D : Addr) (Q : Hp → Prop) : Prop :=
  ∃ W : Nat → Nat → Hp → Prop, (∃ m, W 0 m (upd H1 D (.lst []))) ∧ ∀ i m H, W i m H →
    (J.stop i H ∧ Q H) ∨ (J.go i H ∧ ∃ Nx : Hp → Prop, (∀ H', Nx H' → ∃ m', m' < m ∧ W (i + 1) m' H') ∧ ∀ x H', J.yld i H x H' → g x (wipe σ vs) H' fun σ2 H2 => wipe σ2 vs = wipe σ vs ∧ tt σ2 H2 fun b H3 =>
      if b = true then te σ2 H3 fun y H4 => ∃ acc, H4 D = some (.lst acc) ∧ acc.length < sizeLine ∧ Nx (upd H4 D (.lst (acc ++ [y]))) else Nx H3)
/-- n turns; P i acc H: what is made behind i turns -/
theorem lc_go {J : It} {g : TG} {tt : TT} {te : TE} {vs : List Nat} {σ : St} {H1 : Hp} {D : Addr} {Q : Hp → Prop} (n : Nat) (hn : n < sizeLine) (hD : H1 D = none) (P : Nat → List V → Hp → Prop)
    (hgo : ∀ i H, Same H1 H → i < n → J.go i H) (hst : ∀ H, Same H1 H → J.stop n H) (h0 : ∀ H, Same H1 H → P 0 [] H)
    (hst2 : ∀ i acc H o u, Same H1 H → H D = some (.lst u) → P i acc H → P i acc (upd H D (.lst o)))
    (hs : ∀ i acc H x H' (Nx : Hp → Prop), i < n → acc.length ≤ i → Same H1 H → H D = some (.lst acc) → P i acc H → J.yld i H x H' →
      (∀ y H4, Same H H4 → P (i + 1) (acc ++ [y]) H4 → ∃ acc', H4 D = some (.lst acc') ∧ acc'.length < sizeLine ∧ Nx (upd H4 D (.lst (acc' ++ [y])))) → (∀ H3, Same H H3 → P (i + 1) acc H3 → Nx H3) →
      g x (wipe σ vs) H' fun σ2 H2 => wipe σ2 vs = wipe σ vs ∧ tt σ2 H2 fun b H3 => if b = true then te σ2 H3 fun y H4 => ∃ acc, H4 D = some (.lst acc) ∧ acc.length < sizeLine ∧ Nx (upd H4 D (.lst (acc ++ [y]))) else Nx H3)
    (hd : ∀ acc H, Same H1 H → H D = some (.lst acc) → acc.length ≤ n → P n acc H → Q H) : LcGoal J g tt te vs σ H1 D Q := by
  refine ⟨fun i m H => m = n - i ∧ i ≤ n ∧ Same H1 H ∧ ∃ acc, H D = some (.lst acc) ∧ acc.length ≤ i ∧ P i acc H, ⟨n, by omega, Nat.zero_le _, Same.new hD, [], upd_same, Nat.le_refl _, h0 _ (Same.new hD)⟩, ?_⟩
  rintro i m H ⟨rfl, hi, s, acc, hacc, hlen, p⟩
  by_cases hlt : i < n
  · refine .inr ⟨hgo i H s hlt, fun H' => i + 1 ≤ n ∧ Same H1 H' ∧ ∃ acc, H' D = some (.lst acc) ∧ acc.length ≤ i + 1 ∧ P (i + 1) acc H', fun H' h => ⟨n - (i + 1), by omega, rfl, h⟩, fun x H' y => ?_⟩
    refine hs i acc H x H' _ hlt hlen s hacc p y (fun y H4 s4 p4 => ?_) fun H3 s3 p3 => ⟨hlt, s.trans s3, acc, s3 _ _ hacc, by omega, p3⟩
    have h4 := s4 _ _ hacc
    exact ⟨acc, h4, by omega, hlt, (s.trans s4).mut hD, _, upd_same, by simp; omega, hst2 _ _ _ _ _ (s.trans s4) h4 p4⟩
  · have e : i = n := by omega
    subst e
    exact .inl ⟨hst H s, hd acc H s hacc hlen p⟩
/-- what is made does not speak of the heap -/
theorem lc_val {J : It} {g : TG} {tt : TT} {te : TE} {vs : List Nat} {σ : St} {H1 : Hp} {D : Addr} {Q : Hp → Prop} (n : Nat) (hn : n < sizeLine) (hD : H1 D = none) (R : Nat → List V)
    (hgo : ∀ i H, Same H1 H → i < n → J.go i H) (hst : ∀ H, Same H1 H → J.stop n H) (h0 : R 0 = [])
    (hs : ∀ i H x H' (Nx : Hp → Prop), i < n → Same H1 H → J.yld i H x H' →
      (∀ y H4, Same H H4 → R (i + 1) = R i ++ [y] → ∃ acc', H4 D = some (.lst acc') ∧ acc'.length < sizeLine ∧ Nx (upd H4 D (.lst (acc' ++ [y])))) → (∀ H3, Same H H3 → R (i + 1) = R i → Nx H3) →
      g x (wipe σ vs) H' fun σ2 H2 => wipe σ2 vs = wipe σ vs ∧ tt σ2 H2 fun b H3 => if b = true then te σ2 H3 fun y H4 => ∃ acc, H4 D = some (.lst acc) ∧ acc.length < sizeLine ∧ Nx (upd H4 D (.lst (acc ++ [y]))) else Nx H3)
    (hd : ∀ H, Same H1 H → H D = some (.lst (R n)) → (R n).length ≤ n → Q H) : LcGoal J g tt te vs σ H1 D Q :=
  lc_go n hn hD (fun i acc _ => acc = R i) hgo hst (fun _ _ => h0.symm) (fun _ _ _ _ _ _ _ p => p)
    (fun i acc H x H' Nx hi hl s hacc p y N1 N0 => hs i H x H' Nx hi s y (fun z H4 s4 e => N1 z H4 s4 (by rw [p, e])) fun H3 s3 e => N0 H3 s3 (by rw [p, e]))
    fun acc H s hacc hl p => hd H s (by rw [← p]; exact hacc) (by rw [← p]; exact hl)
/-! ### walks: go, stop, what comes, by what stands -/
section
variable {K : PySem.W.Frag} {a : Addr} {xs : List V}
theorem gl_go {H1 : Hp} (h : H1 a = some (.lst xs)) : ∀ i H, Same H1 H → i < xs.length → (Itl K a).go i H := fun i H s hi => ⟨xs, xs[i], .inl (.inl (s _ _ h)), List.getElem?_eq_getElem hi⟩
theorem gl_st {H1 : Hp} (h : H1 a = some (.lst xs)) : ∀ H, Same H1 H → (Itl K a).stop xs.length H := fun H s => ⟨xs, .inl (.inl (s _ _ h)), Nat.le_refl _⟩
theorem gl_y {H1 H H' : Hp} {i : Nat} {x : V} (h : H1 a = some (.lst xs)) (s : Same H1 H) (y : (Itl K a).yld i H x H') : H' = H ∧ xs[i]? = some x := ⟨y.1, y.2 xs (.inl (.inl (s _ _ h)))⟩
theorem gt_go {H1 : Hp} (h : H1 a = some (.tup xs)) : ∀ i H, Same H1 H → i < xs.length → (Itt K a).go i H := fun i H s hi => ⟨xs, xs[i], .inl (.inl (s _ _ h)), List.getElem?_eq_getElem hi⟩
theorem gt_st {H1 : Hp} (h : H1 a = some (.tup xs)) : ∀ H, Same H1 H → (Itt K a).stop xs.length H := fun H s => ⟨xs, .inl (.inl (s _ _ h)), Nat.le_refl _⟩
theorem gt_y {H1 H H' : Hp} {i : Nat} {x : V} (h : H1 a = some (.tup xs)) (s : Same H1 H) (y : (Itt K a).yld i H x H') : H' = H ∧ xs[i]? = some x := ⟨y.1, y.2 xs (.inl (.inl (s _ _ h)))⟩
theorem ge_go {H1 : Hp} (h : H1 a = some (.lst xs)) : ∀ i H, Same H1 H → i < xs.length → (Ite K a).go i H := fun i H s hi => ⟨xs, xs[i], .inl (.inl (s _ _ h)), List.getElem?_eq_getElem hi⟩
theorem ge_st {H1 : Hp} (h : H1 a = some (.lst xs)) : ∀ H, Same H1 H → (Ite K a).stop xs.length H := fun H s => ⟨xs, .inl (.inl (s _ _ h)), Nat.le_refl _⟩
theorem ge_y {H1 H H' : Hp} {i : Nat} {v : V} (h : H1 a = some (.lst xs)) (s : Same H1 H) (y : (Ite K a).yld i H v H') : ∃ T x, v = .ref T ∧ H T = none ∧ H' = upd H T (.tup [.int (i : Nat), x]) ∧ xs[i]? = some x :=
  let ⟨T, x, e1, e2, e3, e4⟩ := y
  ⟨T, x, e1, e2, e3, e4 xs (.inl (.inl (s _ _ h)))⟩
theorem geT_go {H1 : Hp} (h : H1 a = some (.tup xs)) : ∀ i H, Same H1 H → i < xs.length → (IteT K a).go i H := fun i H s hi => ⟨xs, xs[i], .inl (.inl (s _ _ h)), List.getElem?_eq_getElem hi⟩
theorem geT_st {H1 : Hp} (h : H1 a = some (.tup xs)) : ∀ H, Same H1 H → (IteT K a).stop xs.length H := fun H s => ⟨xs, .inl (.inl (s _ _ h)), Nat.le_refl _⟩
theorem geT_y {H1 H H' : Hp} {i : Nat} {v : V} (h : H1 a = some (.tup xs)) (s : Same H1 H) (y : (IteT K a).yld i H v H') : ∃ T x, v = .ref T ∧ H T = none ∧ H' = upd H T (.tup [.int (i : Nat), x]) ∧ xs[i]? = some x :=
  let ⟨T, x, e1, e2, e3, e4⟩ := y
  ⟨T, x, e1, e2, e3, e4 xs (.inl (.inl (s _ _ h)))⟩
end
end L2
set_option maxRecDepth 100000
set_option maxHeartbeats 4000000
/-! Rules whose readings speak of the heap alone (they go into comprehensions as they are). -/
namespace L2
open PySem PySem.Spec PyProof.Rows
section
variable {X : Cx}
def rIx0 : R2 := fun x y H Q => ∃ p xs i v, x = .ref p ∧ y = .int i ∧ Seq H p xs ∧ atI xs i = some v ∧ Q v H
theorem ix0 : IxR X rIx0 := by
  intro value slice pins s σ H x y v u Q I rx ry h hs
  obtain ⟨p, xs, i, w, e1, e2, hq, ha, q⟩ := h
  rcases hq with hq | hq
  · exact ix_list value slice pins s σ H x y v u Q I rx ry ⟨p, xs, i, w, e1, e2, SqL.of hq, ha, q⟩ hs
  · exact ix_tup value slice pins s σ H x y v u Q I rx ry ⟨p, xs, i, w, e1, e2, SqT.of hq, ha, q⟩ hs
theorem inV_ints (k : Int) : ∀ ns : List Int, inV (.int k) (ns.map V.int) = decide (k ∈ ns)
  | [] => rfl
  | n :: r => by
    show (eqV (.int n) (.int k) || inV (.int k) (r.map V.int)) = _
    rw [inV_ints k r]
    show ((n == k) || decide (k ∈ r)) = decide (k ∈ n :: r)
    by_cases h : n = k
    · subst h; simp
    · have h2 : ¬ k = n := fun e => h e.symm
      simp [h, h2]
theorem flat_ints : ∀ ns : List Int, (ns.map V.int).all flatV = true
  | [] => rfl
  | n :: r => flat_ints r
/-- an int in a sequence of ints -/
def rInI (neg : Bool) : R2 := fun x y H Q => ∃ (p : Addr) (k : Int) (ns : List Int), x = .int k ∧ y = .ref p ∧ Seq H p (ns.map V.int) ∧ Q (.bl (if neg then !decide (k ∈ ns) else decide (k ∈ ns))) H
theorem op_inI : OpR X (compareOp .In) (rInI false) := by
  intro pins s σ H x y v u Q I rx ry h
  obtain ⟨p, k, ns, e1, e2, hq, q⟩ := h
  subst e1
  refine op_in_seq pins s σ H _ y v u Q I rx ry ⟨p, ns.map V.int, e2, hq.sq, rfl, flat_ints ns, ?_⟩
  rw [inV_ints]
  exact q
theorem op_niI : OpR X (compareOp .NotIn) (rInI true) := by
  intro pins s σ H x y v u Q I rx ry h
  obtain ⟨p, k, ns, e1, e2, hq, q⟩ := h
  subst e1
  refine op_notIn_seq pins s σ H _ y v u Q I rx ry ⟨p, ns.map V.int, e2, hq.sq, rfl, flat_ints ns, ?_⟩
  rw [inV_ints]
  exact q
abbrev RL := List V → Hp → VK → Prop
def rLen0 : RL := fun xs H Q => ∃ p ys, xs = [.ref p] ∧ Seq H p ys ∧ Q (.int ys.length) H
theorem c_len0 : CallR X (.builtin "len") rLen0 := fun pins s σ H xs us Q I r ⟨p, ys, e, h, q⟩ => call_len_seq pins s σ H xs us Q I r ⟨p, ys, e, h.sq, q⟩
def rLst0 : RL := fun xs H Q => ∃ p ys, xs = [.ref p] ∧ Seq H p ys ∧ ∀ l, H l = none → Q (.ref l) (upd H l (.lst ys))
theorem c_lst0 : CallR X (.type "list") rLst0 := fun pins s σ H xs us Q I r ⟨p, ys, e, h, q⟩ => call_list_of pins s σ H xs us Q I r ⟨p, ys, e, h.sq, q⟩
def rTup0 : RL := fun xs H Q => ∃ p ys, xs = [.ref p] ∧ H p = some (.lst ys) ∧ ∀ l, H l = none → Q (.ref l) (upd H l (.tup ys))
theorem c_tup0 : CallR X (.type "tuple") rTup0 := fun pins s σ H xs us Q I r ⟨p, ys, e, h, q⟩ => call_tuple_of pins s σ H xs us Q I r ⟨p, ys, e, .inl ⟨SqL.of h, q⟩⟩
def rAll0 : RL := fun vs H Q => ∃ (a : Addr) (bs : List Bool), vs = [V.ref a] ∧ H a = some (.lst (bs.map V.bl)) ∧ Q (.bl (bs.all id)) H
theorem c_all0 (hc : X.calm = true := by rfl) : CallR X (.builtin "all") rAll0 := fun pins s σ H xs us Q I r ⟨a, bs, e, h, q⟩ => cr_all hc pins s σ H xs us Q I r ⟨a, bs, e, SqL.of h, q⟩
def rAny0 : RL := fun vs H Q => ∃ (a : Addr) (bs : List Bool), vs = [V.ref a] ∧ H a = some (.lst (bs.map V.bl)) ∧ Q (.bl (bs.any id)) H
theorem c_any0 (hc : X.calm = true := by rfl) : CallR X (.builtin "any") rAny0 := fun pins s σ H xs us Q I r ⟨a, bs, e, h, q⟩ => cr_any hc pins s σ H xs us Q I r ⟨a, bs, e, SqL.of h, q⟩
def rAnyI0 : RL := fun vs H Q => ∃ (a : Addr) (ns : List Int), vs = [V.ref a] ∧ H a = some (.lst (ns.map V.int)) ∧ Q (.bl (ns.any (· != 0))) H
theorem c_anyI0 (hc : X.calm = true := by rfl) : CallR X (.builtin "any") rAnyI0 := fun pins s σ H xs us Q I r ⟨a, bs, e, h, q⟩ => cr_anyI hc pins s σ H xs us Q I r ⟨a, bs, e, SqL.of h, q⟩
def rSum0 : RL := fun vs H Q => ∃ (a : Addr) (ns : List Int), vs = [V.ref a] ∧ H a = some (.lst (ns.map V.int)) ∧ Q (.int ns.sum) H
theorem c_sum0 (hc : X.calm = true := by rfl) : CallR X (.builtin "sum") rSum0 := fun pins s σ H xs us Q I r ⟨a, bs, e, h, q⟩ => cr_sum hc pins s σ H xs us Q I r ⟨a, bs, e, SqL.of h, q⟩
def rSl0 : V → Option Int → Option Int → Hp → VK → Prop := fun x lo hi H Q => ∃ a xs, x = .ref a ∧ H a = some (.lst xs) ∧ ∀ p, H p = none → Q (.ref p) (upd H p (.lst (cutV xs lo hi)))
theorem sl0 : SlR X rSl0 := fun pins s σ H x v vl vu lo hi sl Q I rx hs pl pu ⟨a, xs, e, h, q⟩ => sl_list pins s σ H x v vl vu lo hi sl Q I rx hs pl pu ⟨a, xs, e, SqL.of h, q⟩
/-- o.f of an instance of the class at C -/
def tFld0 (C : Addr) (f : Str) (ta : TE) : TE := fun σ H Q => ta σ H fun x H1 => ∃ a dx fs v, x = .ref a ∧ H1 a = some (.ins C dx fs) ∧ fs.lookup f = some v ∧ Q v H1
theorem pe_fld0 {C : Addr} {e : Expr} {f : Str} {pos : Pos} {ta : TE} (c : Cls X.K C) (n : NoAttr X.K C f) (he : PE X e ta) (hb : attributeBase e f X.env (eval e X.env) = eval e X.env := by rfl) : PE X (.Attribute e f pos) (tFld0 C f ta) := by
  refine ⟨fun pins s σ H Q I h => ?_⟩
  have he2 : PE X e (fun σ' H' Q' => σ' = σ ∧ H' = H ∧ (∀ x H1, (∃ a dx fs v, x = V.ref a ∧ H1 a = some (HO.ins C dx fs) ∧ fs.lookup f = some v ∧ Q v H1) → Q' x H1)) := ⟨fun pins' s' σ' H' Q' I' ⟨e1, e2, k⟩ => by
    subst e1 e2
    exact thn (he.run pins' s' σ' H' _ I' h) fun v s1 ⟨x, H1, I1, r1, q1⟩ => ⟨x, H1, I1, r1, k x H1 q1⟩⟩
  exact (pe_fld he2 hb).run pins s σ H Q I ⟨rfl, rfl, fun x H1 ⟨a, dx, fs, v, ex, ea, l, q⟩ => ⟨a, C, dx, fs, v, ex, ea, c, n, l, q⟩⟩
/-- a, b = v -/
def gTup0 (n : Nat) (t : TGs) : TG := fun v σ H Q => ∃ a xs, v = .ref a ∧ H a = some (.tup xs) ∧ xs.length = n ∧ t xs σ H Q
theorem pg_tup0 {es : List Expr} {k : Nat} {t : TGs} {n : Nat} {pos : Pos} (hc : X.calm = true) (h : PGs X es t) (hn : (assignEach es X.env).length = n := by rfl) (hst : (assignEach es X.env).findIdx? (·.1) = none := by rfl) : PG X (.Tuple es k pos) (gTup0 n t) :=
  ⟨fun pins s σ H v u Q I r ⟨a, xs, e, hq, hl, q⟩ => (pg_tup hc h hn hst).run pins s σ H v u Q I r ⟨a, xs, e, SqT.of hq, hl, q⟩⟩
/-- walks: what comes of a list or tuple xs that stands at H1, and of its enumerate -/
structure GoesS (J : It) (H1 : Hp) (xs : List V) : Prop where
  go : ∀ i H, Same H1 H → i < xs.length → J.go i H
  st : ∀ H, Same H1 H → J.stop xs.length H
  yl : ∀ i H x H', Same H1 H → J.yld i H x H' → H' = H ∧ xs[i]? = some x
structure GoesE (J : It) (H1 : Hp) (xs : List V) : Prop where
  go : ∀ i H, Same H1 H → i < xs.length → J.go i H
  st : ∀ H, Same H1 H → J.stop xs.length H
  yl : ∀ i H v H', Same H1 H → J.yld i H v H' → ∃ T x, v = .ref T ∧ H T = none ∧ H' = upd H T (.tup [.int (i : Nat), x]) ∧ xs[i]? = some x
/-- a rule for what an expression gives, from one for the values -/
theorem pe_at {e : Expr} {tl : TE} (hl : PE X e tl) {σ : St} {H : Hp} {P : V → Hp → Prop} (h : tl σ H P) : PE X e (fun σ' H' Q' => σ' = σ ∧ H' = H ∧ ∀ x H1, P x H1 → Q' x H1) := ⟨fun pins' s' σ' H' Q' I' ⟨e1, e2, k⟩ => by
  subst e1 e2
  exact thn (hl.run pins' s' σ' H' _ I' h) fun v s1 ⟨x, H1, I1, r1, q1⟩ => ⟨x, H1, I1, r1, k x H1 q1⟩⟩
theorem pa_at {es : List Expr} {t : TA} (hl : PA X es t) {σ : St} {H : Hp} {P : List V → Hp → Prop} (h : t σ H P) : PA X es (fun σ' H' Q' => σ' = σ ∧ H' = H ∧ ∀ x H1, P x H1 → Q' x H1) := ⟨fun pos pins' s' σ' H' Q' I' ⟨e1, e2, k⟩ => by
  subst e1 e2
  exact thn (hl.run pos pins' s' σ' H' _ I' h) fun v s1 ⟨x, H1, I1, r1, q1⟩ => ⟨x, H1, I1, r1, k x H1 q1⟩⟩
def iSeq0 (tl : TE) : TI := fun σ H R => tl σ H fun x H1 => ∃ a xs, x = .ref a ∧ Seq H1 a xs ∧ ∀ J, GoesS J H1 xs → R J H1
theorem pi_seq0 {tg l : Expr} {tl : TE} (hl : PE X l tl) : PI X tg l (iSeq0 tl) := by
  refine ⟨fun pins s σ H R I h => ?_⟩
  refine thn (hl.run pins s σ H _ I h) fun v s1 ⟨x, H1, I1, r1, q1⟩ => ?_
  obtain ⟨a, xs, e, hq, q⟩ := q1
  subst e
  cases r1
  rcases hq with hq | hq
  · obtain ⟨its, rv, p, hz⟩ := I1.list (SqL.of hq)
    refine wpAny_pyIter_list p.isList ?_
    exact ⟨s1.heap.objs.size, [s1.heap.objs.size], _, _, H1, rfl, I1.kept (t' := s1.toks) fun b o e => Heap.get?_push_of_some _ e, turn_list a _, ⟨_, Heap.get?_push_size _ rfl, rfl, rfl⟩, fun b hb => by
      have e : b = s1.heap.objs.size := by simpa using hb
      subst e
      exact I1.fpOk (Nat.le_refl _) (I1.hok.fresh (Nat.le_refl _)), q (Itl X.K a) ⟨gl_go hq, gl_st hq, fun i H x H' s y => gl_y hq s y⟩⟩
  · obtain ⟨its, rv, p, hz⟩ := I1.tuple (SqT.of hq)
    refine wpAny_pyIter_tuple (show s1.heap.IsTuple a its.toArray from p) ?_
    exact ⟨s1.heap.objs.size, [s1.heap.objs.size], _, _, H1, rfl, I1.kept (t' := s1.toks) fun b o e => Heap.get?_push_of_some _ e, turn_tuple a _, ⟨_, Heap.get?_push_size _ rfl, rfl, rfl⟩, fun b hb => by
      have e : b = s1.heap.objs.size := by simpa using hb
      subst e
      exact I1.fpOk (Nat.le_refl _) (I1.hok.fresh (Nat.le_refl _)), q (Itt X.K a) ⟨gt_go hq, gt_st hq, fun i H x H' s y => gt_y hq s y⟩⟩
def iEnum0 (ta : TA) : TI := fun σ H R => ta σ H fun vs H1 => ∃ a xs, vs = [.ref a] ∧ Seq H1 a xs ∧ ∀ J, GoesE J H1 xs → R J H1
theorem pi_enum0 {e : Expr} {ta : TA} {p pos tpos : Pos} {elts : List Expr} {kk : Nat} (hg : Gl X "enumerate") (hm : X.mg "enumerate" = none) (ha : PA X [e] ta) (hs : starEach [e] X.env = [(false, eval e X.env)] := by rfl) :
    PI X (.Tuple elts kk tpos) (.Call (.Name "enumerate" p) [e] [] pos) (iEnum0 ta) :=
  ⟨fun pins s σ H R I h => (pi_enumA hg hm (pa_at ha h) hs).run pins s σ H R I ⟨rfl, rfl, fun x H1 ⟨a, xs, e, hq, q⟩ => ⟨a, xs, e, hq.imp
    (fun h => ⟨SqL.of h, q _ ⟨ge_go h, ge_st h, fun i H x H' s y => ge_y h s y⟩⟩) fun h => ⟨SqT.of h, q _ ⟨geT_go h, geT_st h, fun i H x H' s y => geT_y h s y⟩⟩⟩⟩⟩
/-- isinstance(x, int), isinstance(x, bool), isinstance(x, (list, tuple)) of a plain value -/
def rIsi0 : RL := fun vs H Q => ∃ v, Pl H v ∧ ((vs = [v, .ty "int"] ∧ Q (.bl (kiI v)) H) ∨ (vs = [v, .ty "bool"] ∧ Q (.bl (kiB v)) H))
theorem c_isi0 : CallR X (.builtin "isinstance") rIsi0 := fun pins s σ H xs us Q I r ⟨v, pv, q⟩ => by
  obtain ⟨t, ty, h1, h2, _⟩ := ki_int (K := X.K) pv
  rcases q with ⟨e, q⟩ | ⟨e, q⟩
  · exact call_isi pins s σ H xs us Q I r ⟨v, .ty "int", t, _, _, e, .ty _, ty, h1, q⟩
  · exact call_isi pins s σ H xs us Q I r ⟨v, .ty "bool", t, _, _, e, .ty _, ty, h2, q⟩
def rIsiS0 : RL := fun vs H Q => ∃ v p, vs = [v, .ref p] ∧ H p = some (.tup [.ty "list", .ty "tuple"]) ∧ Pl H v ∧ Q (.bl (kiS v)) H
theorem c_isiS0 : CallR X (.builtin "isinstance") rIsiS0 := fun pins s σ H xs us Q I r ⟨v, p, e, hp, pv, q⟩ => by
  obtain ⟨t, ty, _, _, h3⟩ := ki_int (K := X.K) pv
  exact call_isiT pins s σ H xs us Q I r ⟨v, p, _, t, _, _, e, hp, .cons (.ty _) (.cons (.ty _) .nil), ty, h3, q⟩
end
end L2
set_option maxRecDepth 100000
set_option maxHeartbeats 4000000
/-! Walks of a list or a tuple alike; lists by their beginnings. -/
namespace L2
open PySem PySem.Spec PyProof.Rows
theorem lc_yes {te : TE} {σ : St} {H : Hp} {B : VK} {C : Hp → Prop} (h : te σ H B) : tYes σ H fun b H3 => if b = true then te σ H3 B else C H3 := by
  show (if true = true then te σ H B else C H)
  exact if_t rfl h
theorem take_succ {α : Type} {l : List α} {i : Nat} {x : α} (h : l[i]? = some x) : l.take (i + 1) = l.take i ++ [x] := by
  rw [List.take_add_one, h]
  rfl
theorem take_map_succ {α β : Type} {f : α → β} {l : List α} {i : Nat} {x : α} (h : l[i]? = some x) : (l.take (i + 1)).map f = (l.take i).map f ++ [f x] := by
  rw [take_succ h, List.map_append]
  rfl
theorem mem_at {α : Type} {l : List α} {i : Nat} {x : α} (h : l[i]? = some x) : x ∈ l := List.mem_of_getElem? h
theorem ints_at {ns : List Int} {i : Nat} {y : V} (h : (ns.map V.int)[i]? = some y) : ∃ z, ns[i]? = some z ∧ y = .int z := by
  rw [List.getElem?_map] at h
  cases e : ns[i]? with
  | none => rw [e] at h; cases h
  | some z => rw [e] at h; exact ⟨z, rfl, (Option.some.inj h).symm⟩
theorem sz_small {n : Nat} (h : n ≤ 100000) : n < sizeLine := Nat.lt_of_le_of_lt h (by decide)
theorem sz_le {n : Nat} (h : n ≤ 100000) : n ≤ sizeLine := Nat.le_of_lt (sz_small h)
/-- a loop over what a walk gives, its heap growing or not -/
theorem for_it {J : It} {g : TG} {tb : TS} {D : Ends} {σ : St} {H : Hp} (n : Nat) (Pv : Nat → St → Hp → Prop) (h0 : Pv 0 σ H) (hgo : ∀ i σ H, i < n → Pv i σ H → J.go i H) (hst : ∀ σ H, Pv n σ H → J.stop n H)
    (hs : ∀ i v σ H H', i < n → Pv i σ H → J.yld i H v H' → g v σ H' fun σ2 H2 => tb { D with nx := Pv (i + 1), ct := Pv (i + 1), bk := D.nx } σ2 H2) (hd : ∀ σ H, Pv n σ H → D.nx σ H) :
    ∃ W : Nat → Nat → St → Hp → Prop, (∃ m, W 0 m σ H) ∧ ∀ i m σ H, W i m σ H →
      (J.stop i H ∧ D.nx σ H) ∨ (J.go i H ∧ ∃ N : St → Hp → Prop, (∀ σ' H', N σ' H' → ∃ m', m' < m ∧ W (i + 1) m' σ' H') ∧ ∀ x H', J.yld i H x H' → g x σ H' fun σ2 H2 => tb { D with nx := N, ct := N, bk := D.nx } σ2 H2) := by
  refine ⟨fun i m σ H => m = n - i ∧ i ≤ n ∧ Pv i σ H, ⟨n, by simp, Nat.zero_le _, h0⟩, ?_⟩
  rintro i m σ H ⟨rfl, hi, p⟩
  by_cases hlt : i < n
  · exact .inr ⟨hgo i σ H hlt p, Pv (i + 1), fun σ' H' p' => ⟨n - (i + 1), by omega, rfl, hlt, p'⟩, fun x H' y => hs i x σ H H' hlt p y⟩
  · have e : i = n := by omega
    subst e
    exact .inl ⟨hst σ H p, hd σ H p⟩
end L2
set_option maxRecDepth 100000
set_option maxHeartbeats 4000000
/-! Errors made, told, caught: by bundles. -/
namespace L2
open PySem PySem.Spec PyProof.Rows
/-- the common parent's __init__: told is kept -/
def spDeep (K : PySem.W.Frag) : Sp := fun vs H Q _ => ∃ (a C : Addr) (x : V), vs = [.ref a, x] ∧ ErC K C ∧ PySem.W.findIn K (.ref C) "_told" = some none ∧ H a = some (exo a C none) ∧
  ∀ dx, H dx = none → dx ≠ a → Q .non (upd (upd H dx (exd dx [("_told", x)])) a (exo a C (some dx)))
/-- an error's __init__: its own field too -/
def spErr (C : Addr) (f : Str) : Sp := fun vs H Q _ => ∃ (a : Addr) (x : V), vs = [.ref a, x] ∧ H a = some (exo a C none) ∧
  ∀ dx, H dx = none → dx ≠ a → Q .non (upd (upd (upd H dx (exd dx [("_told", x)])) a (exo a C (some dx))) dx (exd dx [(f, x), ("_told", x)]))
/-- the top's error class x, at C -/
structure ErD (P : Program) (w : World) (K : PySem.W.Frag) (mg : Str → Option Value) (base : Heap) (k : Nat) (x : Str) (C : Addr) (f : Str) : Prop where
  cl : ErC K C
  ex : ∃ (fI : Addr) (fd : FuncData) (ps : List Str), PySem.W.findIn K (.ref C) "__init__" = some (some (.ref fI)) ∧ PySem.W.typeIn K (.ref fI) = some (.type "function") ∧ FnOk P w K mg base CX0 k fI fd ps (spErr C f) ∧ Binds K fd ps []
  gl : mg x = some (.ref C)
  xf : XfC K C
  no : PySem.W.findIn K (.ref C) f = some none
  me : PySem.W.exmOne K (.ref C) (.ref C) = some true
theorem pmk_d {X : Cx} {k j : Nat} {x : Str} {C : Addr} {f : Str} {p pos : Pos} {e : Expr} {es : List Expr} {ta : TA} (d : ErD X.prog X.w X.K X.mg X.base k x C f) (hr : Room j X.A) (hk : k + 1 ≤ j) (hg : Gl X x) (ha : PA X (e :: es) ta)
    (hdb : (x == ("__debug__" : Str)) = false := by decide) (he : starEach (e :: es) X.env = (false, eval e X.env) :: starEach es X.env := by rfl) (hpl : (backTo pos (starEach es X.env)).any (·.1) = false := by rfl) :
    PMk X (.Call (.Name x p) (e :: es) [] pos) (tErMk C (spErr C f) [] ta) := by
  obtain ⟨fI, fd, ps, h1, h2, F, hb⟩ := d.ex
  exact pmk_er d.cl h1 h2 F (hr.mono hk) hb .nil pass0 hg d.gl ha hdb he hpl
/-- an error stands ready to be raised: its dict is new, all else as it was -/
def Er (f : Str) (x : V) (H H' : Hp) (d : Addr) : Prop := H d = none ∧ Same H H' ∧ H' d = some (.xd [(f, x), ("_told", x)])
theorem er_read {C : Addr} {f : Str} {x : V} {H1 : Hp} {W : XK} (h : ∀ d H', Er f x H1 H' d → W (.ref C) (some d) H') :
    [x].length ≤ 1000 ∧ ∀ a, H1 a = none → spErr C f (.ref a :: ([x] ++ [])) (upd H1 a (exo a C none)) (fun v H2 => v = .non ∧ ∃ (d : Addr) (fs : List (Str × V)), H2 a = some (exo a C (some d)) ∧ H2 d = some (exd d fs) ∧ H1 d = none ∧ W (.ref C) (some d) (upd (del H2 a) d (.xd fs))) (fun _ _ _ => False) := by
  refine ⟨by simp, fun a ha => ⟨a, x, rfl, upd_same, fun dx hd ne => ⟨rfl, dx, _, ?_, upd_same, ?_, ?_⟩⟩⟩
  · rw [upd_ne (Ne.symm ne), upd_same]
  · rw [upd_ne ne] at hd
    exact hd
  · have hd' : H1 dx = none := by
      rw [upd_ne ne] at hd
      exact hd
    refine h dx _ ⟨hd', fun b o e => ?_, upd_same⟩
    have nb : b ≠ dx := ne_of_none e hd'
    have na : b ≠ a := ne_of_none e ha
    rw [upd_ne nb, del_ne na, upd_ne nb, upd_ne na, upd_ne nb, upd_ne na]
    exact e
theorem Er.told {f : Str} {x : V} {H H' : Hp} {d : Addr} (e : Er f x H H' d) : ∃ fs : List (Str × V), H' d = some (.xd fs) ∧ fs.lookup f = some x := ⟨_, e.2.2, by simp [List.lookup]⟩
theorem Er.back {f : Str} {x : V} {H0 H H' : Hp} {d : Addr} (s : Same H0 H) (e : Er f x H H' d) : Er f x H0 H' d := ⟨s.free e.1, s.trans e.2.1, e.2.2⟩
/-- a clause's test by two facts of the class -/
theorem exm_yes {K : PySem.W.Frag} {S B : Addr} (h1 : PySem.W.subIn K (.ref B) (.type "BaseException") = some true) (h2 : PySem.W.isClsIn K B = true) (h3 : PySem.W.typeIn K (.ref B) = some (.type "type")) (h4 : PySem.W.subIn K (.ref S) (.ref B) = some true) :
    PySem.W.exmOne K (.ref S) (.ref B) = some true := by
  have e1 : (PySem.W.subIn K (.ref B) (.type "BaseException") == some true) = true := by rw [h1] <;> rfl
  have e2 : ((PySem.W.clsIn K B).isSome && PySem.W.typeIn K (.ref B) == some (.type "type")) = true := by
    have h2' : (PySem.W.clsIn K B).isSome = true := h2
    rw [h2', h3] <;> rfl
  show (if (PySem.W.subIn K (.ref B) (.type "BaseException") == some true) = true then (if ((PySem.W.clsIn K B).isSome && PySem.W.typeIn K (.ref B) == some (.type "type")) = true then PySem.W.subIn K (.ref S) (.ref B) else none) else none) = some true
  rw [if_pos e1, if_pos e2]
  exact h4
/-! the two inits, walked -/
section
variable {P : Program} {w : World} {K : PySem.W.Frag} {mg : Str → Option Value} {base : Heap}
theorem deep_read {a C : Addr} {x : V} {H : Hp} {D : Ends} {σ : St} (e0 : σ[0]? = some (some (.ref a))) (e1 : σ[1]? = some (some x)) (T : ErC K C) (n : PySem.W.findIn K (.ref C) "_told" = some none) (ha : H a = some (exo a C none))
    (q : ∀ dx, H dx = none → dx ≠ a → D.nx σ (upd (upd H dx (exd dx [("_told", x)])) a (exo a C (some dx)))) : tErSet K "_told" (tVar 0) (tVar 1) D σ H :=
  ⟨_, e1, _, e0, a, C, rfl, T, n, .inl ⟨ha, q⟩⟩
end
end L2

namespace L2
open PySem PySem.Spec PyProof.Rows
/-! ### dict comprehensions -/
theorem dc_go {J : It} {g : TG} {tt : TT} {tk tv : TE} {vs : List Nat} {σ : St} {H1 : Hp} {D : Addr} {Q : Hp → Prop} (n : Nat) (hn : n < sizeLine) (hD : H1 D = none) (P : Nat → List (Key × V) → Prop)
    (hgo : ∀ i H, Same H1 H → i < n → J.go i H) (hst : ∀ H, Same H1 H → J.stop n H) (h0 : P 0 [])
    (hs : ∀ i kvs H x H' (Nx : Hp → Prop), i < n → P i kvs → Same H1 H → H D = some (.dK kvs) → J.yld i H x H' →
      (∀ k y z H5, y = kV k → Same H H5 → P (i + 1) (putK kvs k z) → ∃ kvs k, y = kV k ∧ H5 D = some (.dK kvs) ∧ kvs.length < sizeLine ∧ Nx (upd H5 D (.dK (putK kvs k z)))) →
      g x (wipe σ vs) H' fun σ2 H2 => wipe σ2 vs = wipe σ vs ∧ tt σ2 H2 fun b H3 => if b = true then tk σ2 H3 fun y H4 => tv σ2 H4 fun z H5 => ∃ kvs k, y = kV k ∧ H5 D = some (.dK kvs) ∧ kvs.length < sizeLine ∧ Nx (upd H5 D (.dK (putK kvs k z))) else Nx H3)
    (hd : ∀ kvs H, Same H1 H → H D = some (.dK kvs) → P n kvs → Q H) :
    ∃ W : Nat → Nat → Hp → Prop, (∃ m, W 0 m (upd H1 D (.dK []))) ∧ ∀ i m H, W i m H → (J.stop i H ∧ Q H) ∨ (J.go i H ∧ ∃ Nx : Hp → Prop, (∀ H', Nx H' → ∃ m', m' < m ∧ W (i + 1) m' H') ∧ ∀ x H', J.yld i H x H' →
      g x (wipe σ vs) H' fun σ2 H2 => wipe σ2 vs = wipe σ vs ∧ tt σ2 H2 fun b H3 => if b = true then tk σ2 H3 fun y H4 => tv σ2 H4 fun z H5 => ∃ kvs k, y = kV k ∧ H5 D = some (.dK kvs) ∧ kvs.length < sizeLine ∧ Nx (upd H5 D (.dK (putK kvs k z))) else Nx H3) := by
  refine ⟨fun i m H => m = n - i ∧ i ≤ n ∧ Same H1 H ∧ ∃ kvs, H D = some (.dK kvs) ∧ kvs.length ≤ i ∧ P i kvs, ⟨n, by omega, Nat.zero_le _, Same.new hD, [], upd_same, Nat.le_refl _, h0⟩, ?_⟩
  rintro i m H ⟨rfl, hi, s, kvs, hk, hlen, p⟩
  by_cases hlt : i < n
  · refine .inr ⟨hgo i H s hlt, fun H' => i + 1 ≤ n ∧ Same H1 H' ∧ ∃ kvs, H' D = some (.dK kvs) ∧ kvs.length ≤ i + 1 ∧ P (i + 1) kvs, fun H' h => ⟨n - (i + 1), by omega, rfl, h⟩, fun x H' y => ?_⟩
    refine hs i kvs H x H' _ hlt p s hk y fun k y z H5 ey s5 p5 => ?_
    have hl := length_putK kvs k z
    exact ⟨kvs, k, ey, s5 _ _ hk, by omega, hlt, (s.trans s5).mut hD, _, upd_same, by omega, p5⟩
  · have e : i = n := by omega
    subst e
    exact .inl ⟨hst H s, hd kvs H s hk p⟩
/-- each number's place -/
def PlaceD (os : List Int) (i : Nat) (kvs : List (Key × V)) : Prop := ∀ j x, j < i → os[j]? = some x → valV kvs (Sum.inl x) = some (.int (j : Nat))
theorem placeD_put {os : List Int} (hnd : os.Nodup) {i : Nat} {x : Int} {kvs : List (Key × V)} (hx : os[i]? = some x) (h : PlaceD os i kvs) : PlaceD os (i + 1) (putK kvs (Sum.inl x) (.int (i : Nat))) := fun j y hj hy => by
  rw [valV_put]
  by_cases e : j = i
  · subst e
    rw [hx] at hy
    rw [if_pos (by rw [Option.some.inj hy])]
  · have ne : ¬ (Sum.inl y : Key) = Sum.inl x := fun z => by
      injection z with z
      subst z
      exact e (nd_ix hnd hy hx)
    rw [if_neg ne]
    exact h j y (by omega) hy
/-- the reading of {number: k for k, number in enumerate(..)}, its two slots set -/
theorem lc_yes2 {A B : Hp → Prop} {σ : St} {H : Hp} (h : A H) : tYes σ H fun b H3 => if b = true then A H3 else B H3 := by
  show (if true = true then A H else B H)
  exact if_t rfl h
end L2
set_option maxRecDepth 100000
set_option maxHeartbeats 4000000
/-! The truth of an int, free of K. -/
namespace L2
open PySem PySem.Spec PyProof.Rows
def tInt0 (ta : TE) : TT := fun σ H Q => ta σ H fun x H' => ∃ i, x = .int i ∧ Q (i != 0) H'
theorem pt_int0 {X : Cx} {a : Expr} {ta : TE} (ha : PE X a ta) (he : ∀ whole, isTrue a X.env whole = (do let v ← whole; standAt a.pos; holding [v] (truthy v))) : PT X a (tInt0 ta) :=
  ⟨fun pins s σ H Q I h => (pt_truth (pe_at ha h) he).run pins s σ H Q I ⟨rfl, rfl, fun x H1 ⟨i, e, q⟩ => ⟨i != 0, by subst e; rfl, q⟩⟩⟩
/-- a walk of the list or tuple at a, as long as a stands as it stood in H1 -/
structure GoesA (J : It) (H1 : Hp) (a : Addr) (xs : List V) : Prop where
  go : ∀ i H, H a = H1 a → i < xs.length → J.go i H
  st : ∀ H, H a = H1 a → J.stop xs.length H
  yl : ∀ i H x H', H a = H1 a → J.yld i H x H' → H' = H ∧ xs[i]? = some x
def iSeqA (tl : TE) : TI := fun σ H R => tl σ H fun x H1 => ∃ a xs, x = .ref a ∧ Seq H1 a xs ∧ ∀ J, GoesA J H1 a xs → R J H1
theorem pi_seqA {X : Cx} {tg l : Expr} {tl : TE} (hl : PE X l tl) : PI X tg l (iSeqA tl) := by
  refine ⟨fun pins s σ H R I h => ?_⟩
  refine thn (hl.run pins s σ H _ I h) fun v s1 ⟨x, H1, I1, r1, q1⟩ => ?_
  obtain ⟨a, xs, e, hq, q⟩ := q1
  subst e
  cases r1
  rcases hq with hq | hq
  · obtain ⟨its, rv, p, hz⟩ := I1.list (SqL.of hq)
    refine wpAny_pyIter_list p.isList ?_
    exact ⟨s1.heap.objs.size, [s1.heap.objs.size], _, _, H1, rfl, I1.kept (t' := s1.toks) fun b o e => Heap.get?_push_of_some _ e, turn_list a _, ⟨_, Heap.get?_push_size _ rfl, rfl, rfl⟩, fun b hb => by
      have e : b = s1.heap.objs.size := by simpa using hb
      subst e
      exact I1.fpOk (Nat.le_refl _) (I1.hok.fresh (Nat.le_refl _)), q (Itl X.K a) ⟨fun i H e hi => gl_go (e.trans hq) i H (Same.refl _) hi, fun H e => gl_st (e.trans hq) H (Same.refl _), fun i H x H' e y => gl_y (e.trans hq) (Same.refl _) y⟩⟩
  · obtain ⟨its, rv, p, hz⟩ := I1.tuple (SqT.of hq)
    refine wpAny_pyIter_tuple (show s1.heap.IsTuple a its.toArray from p) ?_
    exact ⟨s1.heap.objs.size, [s1.heap.objs.size], _, _, H1, rfl, I1.kept (t' := s1.toks) fun b o e => Heap.get?_push_of_some _ e, turn_tuple a _, ⟨_, Heap.get?_push_size _ rfl, rfl, rfl⟩, fun b hb => by
      have e : b = s1.heap.objs.size := by simpa using hb
      subst e
      exact I1.fpOk (Nat.le_refl _) (I1.hok.fresh (Nat.le_refl _)), q (Itt X.K a) ⟨fun i H e hi => gt_go (e.trans hq) i H (Same.refl _) hi, fun H e => gt_st (e.trans hq) H (Same.refl _), fun i H x H' e y => gt_y (e.trans hq) (Same.refl _) y⟩⟩
end L2
/-! Plain mathematics of exchanges: rows that stand unlike, swaps of neighbours, closures. -/
namespace XM
/-- how many behind each item are smaller -/
def inv : List Int → Nat
  | [] => 0
  | x :: r => (r.filter (fun y => decide (y < x))).length + inv r
theorem inv_cons (x : Int) (r : List Int) : inv (x :: r) = (r.filter (fun y => decide (y < x))).length + inv r := rfl
theorem filt_app (x : Int) (a b : List Int) : ((a ++ b).filter (fun y => decide (y < x))).length = (a.filter (fun y => decide (y < x))).length + (b.filter (fun y => decide (y < x))).length := by
  rw [List.filter_append, List.length_append]
theorem inv_swap : ∀ (l : List Int) (a b : Int) (r : List Int), b < a → inv (l ++ a :: b :: r) = inv (l ++ b :: a :: r) + 1
  | [], a, b, r, h => by
    show inv (a :: b :: r) = inv (b :: a :: r) + 1
    simp only [inv_cons, List.filter_cons]
    have h1 : ¬ a < b := by omega
    simp only [h, h1, decide_true, decide_false, if_true, if_false, List.length_cons, Bool.false_eq_true]
    omega
  | x :: l, a, b, r, h => by
    have ih := inv_swap l a b r h
    show inv (x :: (l ++ a :: b :: r)) = inv (x :: (l ++ b :: a :: r)) + 1
    have e : ((l ++ a :: b :: r).filter (fun y => decide (y < x))).length = ((l ++ b :: a :: r).filter (fun y => decide (y < x))).length := by
      have p : (l ++ a :: b :: r).Perm (l ++ b :: a :: r) := List.Perm.append_left l (List.Perm.swap b a r)
      exact (p.filter _).length_eq
    rw [inv_cons, inv_cons, ih, e]
    omega
/-- two neighbours in one another's place -/
def swapAt (l : List Int) (i : Nat) : List Int := (l.set i (l.getD (i + 1) 0)).set (i + 1) (l.getD i 0)
theorem split_at {l : List Int} {i : Nat} (h : i + 1 < l.length) : ∃ p q, l = p ++ l.getD i 0 :: l.getD (i + 1) 0 :: q ∧ p.length = i := by
  refine ⟨l.take i, l.drop (i + 2), ?_, by rw [List.length_take]; omega⟩
  have e1 : l.getD i 0 = l[i] := by rw [List.getD_eq_getElem?_getD, List.getElem?_eq_getElem (by omega)]; rfl
  have e2 : l.getD (i + 1) 0 = l[i + 1] := by rw [List.getD_eq_getElem?_getD, List.getElem?_eq_getElem h]; rfl
  rw [e1, e2]
  have d1 : l.drop i = l[i] :: l.drop (i + 1) := List.drop_eq_getElem_cons (by omega)
  have d2 : l.drop (i + 1) = l[i + 1] :: l.drop (i + 2) := List.drop_eq_getElem_cons h
  rw [← d2, ← d1, List.take_append_drop]
theorem swap_split {l : List Int} {i : Nat} (h : i + 1 < l.length) : ∃ p q a b, l = p ++ a :: b :: q ∧ swapAt l i = p ++ b :: a :: q ∧ p.length = i ∧ a = l.getD i 0 ∧ b = l.getD (i + 1) 0 := by
  obtain ⟨p, q, e, hp⟩ := split_at h
  refine ⟨p, q, l.getD i 0, l.getD (i + 1) 0, e, ?_, hp, rfl, rfl⟩
  unfold swapAt
  generalize l.getD i 0 = a at *
  generalize l.getD (i + 1) 0 = b at *
  subst e
  subst hp
  rw [List.set_append_right _ _ (Nat.le_refl _), Nat.sub_self, List.set_cons_zero, List.set_append_right _ _ (by omega)]
  have : p.length + 1 - p.length = 1 := by omega
  rw [this]
  rfl
theorem inv_swapAt {l : List Int} {i : Nat} (h : i + 1 < l.length) (d : l.getD (i + 1) 0 < l.getD i 0) : inv l = inv (swapAt l i) + 1 := by
  obtain ⟨p, q, a, b, e1, e2, _, ea, eb⟩ := swap_split h
  rw [e2]
  rw [← ea, ← eb] at d
  have := inv_swap p a b q d
  rw [← e1] at this
  exact this
theorem swap_perm {l : List Int} {i : Nat} (h : i + 1 < l.length) : (swapAt l i).Perm l := by
  obtain ⟨p, q, a, b, e1, e2, _⟩ := swap_split h
  rw [e2]
  have : (p ++ b :: a :: q).Perm (p ++ a :: b :: q) := List.Perm.append_left p (List.Perm.swap a b q)
  rw [← e1] at this
  exact this
theorem swap_len {l : List Int} {i : Nat} : (swapAt l i).length = l.length := by
  unfold swapAt
  rw [List.length_set, List.length_set]
theorem swap_get {l : List Int} {i : Nat} (h : i + 1 < l.length) (j : Nat) : (swapAt l i)[j]? = if j = i then l[i + 1]? else if j = i + 1 then l[i]? else l[j]? := by
  have e1 : l.getD i 0 = l[i]'(by omega) := by rw [List.getD_eq_getElem?_getD, List.getElem?_eq_getElem (by omega)]; rfl
  have e2 : l.getD (i + 1) 0 = l[i + 1] := by rw [List.getD_eq_getElem?_getD, List.getElem?_eq_getElem h]; rfl
  unfold swapAt
  rw [e1, e2, List.getElem?_set, List.getElem?_set, List.length_set]
  by_cases h1 : j = i
  · subst h1
    rw [if_neg (by omega), if_pos rfl, if_pos (by omega), if_pos rfl, List.getElem?_eq_getElem h]
  · by_cases h2 : j = i + 1
    · subst h2
      rw [if_pos rfl, if_pos h, if_neg h1, if_pos rfl, List.getElem?_eq_getElem (by omega)]
    · rw [if_neg (by omega), if_neg (by omega), if_neg h1, if_neg h2]
theorem swap_map (f : Int → Int) {l : List Int} {i : Nat} (h : i + 1 < l.length) : (swapAt l i).map f = swapAt (l.map f) i := by
  refine List.ext_getElem? fun j => ?_
  rw [List.getElem?_map, swap_get h, swap_get (by rw [List.length_map]; exact h)]
  by_cases h1 : j = i
  · rw [if_pos h1, if_pos h1, List.getElem?_map]
  · rw [if_neg h1, if_neg h1]
    by_cases h2 : j = i + 1
    · rw [if_pos h2, if_pos h2, List.getElem?_map]
    · rw [if_neg h2, if_neg h2, List.getElem?_map]

/-! ### the law's own count, and the program's -/
/-- how many ahead of each item are larger -/
def invL : List Int → List Int → Nat
  | _, [] => 0
  | pre, x :: r => (pre.filter (fun y => decide (x < y))).length + invL (pre ++ [x]) r
theorem invL_split : ∀ (r pre : List Int), invL pre r = inv r + ((r.map fun x => (pre.filter (fun y => decide (x < y))).length)).sum
  | [], pre => rfl
  | x :: r, pre => by
    have ih := invL_split r (pre ++ [x])
    show (pre.filter (fun y => decide (x < y))).length + invL (pre ++ [x]) r = _
    rw [ih, inv_cons, List.map_cons, List.sum_cons]
    have e : (r.map fun z => ((pre ++ [x]).filter (fun y => decide (z < y))).length).sum = (r.map fun z => (pre.filter (fun y => decide (z < y))).length).sum + (r.filter (fun y => decide (y < x))).length := by
      clear ih
      induction r with
      | nil => rfl
      | cons z r ih =>
        rw [List.map_cons, List.sum_cons, ih, List.map_cons, List.sum_cons, List.filter_append, List.length_append]
        by_cases h : z < x
        · have hs : (List.filter (fun y => decide (z < y)) [x]).length = 1 := by simp [h]
          rw [hs, List.filter_cons, if_pos (decide_eq_true h), List.length_cons]
          omega
        · have hs : (List.filter (fun y => decide (z < y)) [x]).length = 0 := by simp [h]
          rw [hs, List.filter_cons, if_neg (by simp [h])]
          omega
    rw [e]
    omega
theorem invL_inv (r : List Int) : invL [] r = inv r := by
  rw [invL_split]
  have : (r.map fun x => (([] : List Int).filter (fun y => decide (x < y))).length).sum = 0 := by
    induction r with
    | nil => rfl
    | cons x r ih => rw [List.map_cons, List.sum_cons, ih]; rfl
  rw [this]
  rfl
/-- the program's own count at one place -/
def cnt (ps : List Int) (k : Nat) : Int := (((ps.drop k).filter fun y => decide (y < ps.getD k 0)).length : Nat)
theorem cnt_sum : ∀ ps : List Int, ((List.range ps.length).map (cnt ps)).sum = (inv ps : Nat)
  | [] => rfl
  | x :: r => by
    have ih := cnt_sum r
    rw [List.length_cons, List.range_succ_eq_map, List.map_cons, List.sum_cons, List.map_map]
    have e1 : (cnt (x :: r) ∘ Nat.succ) = cnt r := by
      funext k
      rfl
    rw [e1, ih, inv_cons]
    have e2 : cnt (x :: r) 0 = ((r.filter fun y => decide (y < x)).length : Nat) := by
      show ((((x :: r).filter fun y => decide (y < x)).length : Nat) : Int) = _
      rw [List.filter_cons, if_neg (by simp)]
    rw [e2]
    omega
/-- the law's own count at one place -/
def cntL (qs : List Int) (k : Nat) : Nat := ((qs.take k).filter fun y => decide (qs.getD k 0 < y)).length
theorem cntL_pre : ∀ (r pre : List Int), ((List.range r.length).map fun k => cntL (pre ++ r) (pre.length + k)).sum = invL pre r
  | [], _ => rfl
  | x :: r, pre => by
    have ih := cntL_pre r (pre ++ [x])
    rw [List.length_cons, List.range_succ_eq_map, List.map_cons, List.sum_cons, List.map_map]
    have e1 : ((fun k => cntL (pre ++ x :: r) (pre.length + k)) ∘ Nat.succ) = fun k => cntL ((pre ++ [x]) ++ r) ((pre ++ [x]).length + k) := by
      funext k
      show cntL (pre ++ x :: r) (pre.length + (k + 1)) = _
      rw [List.append_assoc, List.length_append, List.length_singleton, Nat.add_assoc, Nat.add_comm 1 k]
      rfl
    rw [e1, ih]
    have e2 : cntL (pre ++ x :: r) (pre.length + 0) = (pre.filter fun y => decide (x < y)).length := by
      unfold cntL
      rw [Nat.add_zero, List.take_left, List.getD_eq_getElem?_getD, List.getElem?_append_right (Nat.le_refl _), Nat.sub_self]
      rfl
    rw [e2]
    rfl
theorem cntL_sum (qs : List Int) : ((List.range qs.length).map (cntL qs)).sum = inv qs := by
  have h := cntL_pre qs []
  rw [invL_inv] at h
  rw [← h]
  congr 1
  refine List.map_congr_left fun k _ => ?_
  show cntL qs k = cntL ([] ++ qs) (0 + k)
  rw [Nat.zero_add]
  rfl
/-! ### unlike both ways round -/
def ix (l : List Int) (x : Int) : Int := ((l.idxOf x : Nat) : Int)
def sum2 (l : List Int) (g : Int → Int → Nat) : Nat := (l.map fun x => (l.map fun y => g x y).sum).sum
theorem sum_add (l : List Int) (f g : Int → Nat) : (l.map fun x => f x + g x).sum = (l.map f).sum + (l.map g).sum := by
  induction l with
  | nil => rfl
  | cons x l ih => simp only [List.map_cons, List.sum_cons, ih]; omega
theorem sum_zero (l : List Int) : (l.map fun _ => 0).sum = 0 := by
  induction l with
  | nil => rfl
  | cons x l ih => simp only [List.map_cons, List.sum_cons, ih]
theorem sum_swap (l m : List Int) (g : Int → Int → Nat) : (l.map fun x => (m.map fun y => g x y).sum).sum = (m.map fun y => (l.map fun x => g x y).sum).sum := by
  induction l with
  | nil => simp only [List.map_nil, List.sum_nil]; exact (sum_zero m).symm
  | cons x l ih => simp only [List.map_cons, List.sum_cons, ih]; rw [sum_add]
theorem sum_congr {l : List Int} {f g : Int → Nat} (h : ∀ x ∈ l, f x = g x) : (l.map f).sum = (l.map g).sum := by rw [List.map_congr_left h]
theorem sum_perm {l m : List Int} (p : l.Perm m) (f : Int → Nat) : (l.map f).sum = (m.map f).sum := by
  induction p with
  | nil => rfl
  | cons x _ ih => simp only [List.map_cons, List.sum_cons, ih]
  | swap x y l => simp only [List.map_cons, List.sum_cons]; omega
  | trans _ _ h1 h2 => exact h1.trans h2
theorem filt_sum (l : List Int) (p : Int → Bool) : (l.filter p).length = (l.map fun y => if p y then 1 else 0).sum := by
  induction l with
  | nil => rfl
  | cons x l ih =>
    rw [List.filter_cons, List.map_cons, List.sum_cons, ← ih]
    by_cases h : p x = true
    · rw [if_pos h, if_pos h, List.length_cons]; omega
    · rw [if_neg h, if_neg h]; omega
/-- x ahead of y here, and behind it by f -/
def cross (r : List Int) (f : Int → Int) (x y : Int) : Nat := if ix r x < ix r y ∧ f y < f x then 1 else 0
theorem ix_head (a : Int) (r : List Int) : ix (a :: r) a = 0 := by
  unfold ix
  rw [List.idxOf_cons_self]
  rfl
theorem ix_tail {a x : Int} (r : List Int) (h : x ≠ a) : ix (a :: r) x = ix r x + 1 := by
  unfold ix
  have h2 : (a == x) = false := by simpa using fun e => h e.symm
  rw [List.idxOf_cons, h2]
  show ((r.idxOf x + 1 : Nat) : Int) = _
  omega
theorem ix_nonneg (r : List Int) (x : Int) : 0 ≤ ix r x := Int.natCast_nonneg _
theorem inv_cross : ∀ (r : List Int) (f : Int → Int), r.Nodup → inv (r.map f) = sum2 r (cross r f)
  | [], _, _ => rfl
  | a :: r, f, h => by
    obtain ⟨ha, hr⟩ := List.nodup_cons.mp h
    have ih := inv_cross r f hr
    have ne : ∀ x ∈ r, x ≠ a := fun x hx e => ha (e ▸ hx)
    rw [List.map_cons, inv_cons, ih, List.filter_map, List.length_map, filt_sum]
    unfold sum2
    rw [List.map_cons, List.sum_cons, List.map_cons, List.sum_cons]
    have c0 : cross (a :: r) f a a = 0 := if_neg (by omega)
    have c1 : (r.map fun y => cross (a :: r) f a y).sum = (r.map fun y => if ((fun y => decide (y < f a)) ∘ f) y then 1 else 0).sum := by
      refine sum_congr fun y hy => ?_
      unfold cross
      rw [ix_head, ix_tail r (ne y hy)]
      have := ix_nonneg r y
      by_cases hlt : f y < f a
      · rw [if_pos ⟨by omega, hlt⟩, if_pos (by simp [hlt])]
      · rw [if_neg (fun z => hlt z.2), if_neg (by simp [hlt])]
    have c2 : (r.map fun x => ((a :: r).map fun y => cross (a :: r) f x y).sum).sum = (r.map fun x => (r.map fun y => cross r f x y).sum).sum := by
      refine sum_congr fun x hx => ?_
      rw [List.map_cons, List.sum_cons]
      have z : cross (a :: r) f x a = 0 := by
        unfold cross
        rw [ix_head]
        have := ix_nonneg (a :: r) x
        exact if_neg (by omega)
      rw [z, Nat.zero_add]
      refine sum_congr fun y hy => ?_
      unfold cross
      rw [ix_tail r (ne x hx), ix_tail r (ne y hy)]
      by_cases hh : ix r x < ix r y ∧ f y < f x
      · rw [if_pos hh, if_pos ⟨by omega, hh.2⟩]
      · rw [if_neg hh, if_neg (fun z => hh ⟨by omega, z.2⟩)]
    rw [c0, c1, c2]
    omega
theorem inv_sym {r o : List Int} (hr : r.Nodup) (ho : o.Nodup) (p : r.Perm o) : inv (r.map (ix o)) = inv (o.map (ix r)) := by
  rw [inv_cross r _ hr, inv_cross o _ ho]
  unfold sum2
  have e1 : (r.map fun x => (r.map fun y => cross r (ix o) x y).sum).sum = (o.map fun x => (o.map fun y => cross r (ix o) x y).sum).sum := by
    rw [sum_perm p]
    exact sum_congr fun x _ => sum_perm p _
  rw [e1, sum_swap]
  refine sum_congr fun y _ => sum_congr fun x _ => ?_
  unfold cross
  by_cases h : ix r x < ix r y ∧ ix o y < ix o x
  · rw [if_pos h, if_pos ⟨h.2, h.1⟩]
  · rw [if_neg h, if_neg (fun z => h ⟨z.2, z.1⟩)]
/-! ### walks of swaps -/
def walk : List Int → List Nat → List Int
  | l, [] => l
  | l, f :: fs => walk (swapAt l f) fs
/-- each swap takes two neighbours that stand the wrong way round by f -/
def Falls (f : Int → Int) : List Int → List Nat → Prop
  | _, [] => True
  | l, i :: fs => i + 1 < l.length ∧ (l.map f).getD (i + 1) 0 < (l.map f).getD i 0 ∧ Falls f (swapAt l i) fs
theorem walk_snoc : ∀ (fs : List Nat) (l : List Int) (i : Nat), walk l (fs ++ [i]) = swapAt (walk l fs) i
  | [], _, _ => rfl
  | f :: fs, l, i => walk_snoc fs (swapAt l f) i
theorem falls_snoc (f : Int → Int) : ∀ (fs : List Nat) (l : List Int) (i : Nat), Falls f l fs → i + 1 < (walk l fs).length → ((walk l fs).map f).getD (i + 1) 0 < ((walk l fs).map f).getD i 0 → Falls f l (fs ++ [i])
  | [], l, i, _, h1, h2 => ⟨h1, h2, trivial⟩
  | j :: fs, l, i, h, h1, h2 => ⟨h.1, h.2.1, falls_snoc f fs (swapAt l j) i h.2.2 h1 h2⟩
theorem falls_at (f : Int → Int) : ∀ (fs : List Nat) (l : List Int) (i k : Nat), Falls f l fs → fs[i]? = some k → k + 1 < l.length ∧ ((walk l (fs.take i)).map f).getD (k + 1) 0 < ((walk l (fs.take i)).map f).getD k 0
  | [], _, _, _, _, h => by cases h
  | j :: fs, l, 0, k, h, e => by
    have e' : j = k := Option.some.inj e
    subst e'
    exact ⟨h.1, h.2.1⟩
  | j :: fs, l, i + 1, k, h, e => by
    obtain ⟨h1, h2⟩ := falls_at f fs (swapAt l j) i k h.2.2 e
    rw [show (swapAt l j).length = l.length from by unfold swapAt; rw [List.length_set, List.length_set]] at h1
    exact ⟨h1, h2⟩
theorem falls_take {f : Int → Int} : ∀ {fs : List Nat} {l : List Int} {i : Nat}, Falls f l fs → Falls f l (fs.take i)
  | _, _, 0, _ => trivial
  | [], _, _ + 1, _ => trivial
  | _ :: _, _, _ + 1, h => ⟨h.1, h.2.1, falls_take h.2.2⟩
theorem walk_len : ∀ (fs : List Nat) (l : List Int), (walk l fs).length = l.length
  | [], _ => rfl
  | f :: fs, l => (walk_len fs (swapAt l f)).trans swap_len
theorem falls_inv (f : Int → Int) : ∀ (fs : List Nat) (l : List Int), Falls f l fs → inv (l.map f) = fs.length + inv ((walk l fs).map f)
  | [], l, _ => by
    show _ = 0 + inv (l.map f)
    omega
  | i :: fs, l, h => by
    have ih := falls_inv f fs (swapAt l i) h.2.2
    have e := inv_swapAt (l := l.map f) (i := i) (by rw [List.length_map]; exact h.1) h.2.1
    rw [← swap_map f h.1, ih] at e
    show inv (l.map f) = (fs.length + 1) + inv ((walk (swapAt l i) fs).map f)
    omega
theorem falls_perm (f : Int → Int) : ∀ (fs : List Nat) (l : List Int), Falls f l fs → (walk l fs).Perm l
  | [], _, _ => List.Perm.refl _
  | i :: fs, l, h => (falls_perm f fs (swapAt l i) h.2.2).trans (swap_perm h.1)
theorem inv_sorted : ∀ (n k : Nat), inv ((List.range' k n).map fun (i : Nat) => (i : Int)) = 0
  | 0, _ => rfl
  | n + 1, k => by
    rw [List.range'_succ, List.map_cons, inv_cons, inv_sorted n (k + 1)]
    have : (((List.range' (k + 1) n).map fun i : Nat => (i : Int)).filter (fun y => decide (y < (k : Int)))) = [] := by
      rw [List.filter_eq_nil_iff]
      intro y hy
      obtain ⟨i, hi, rfl⟩ := List.mem_map.mp hy
      have := (List.mem_range'_1.mp hi).1
      simp
      omega
    rw [this]
    rfl
theorem ix_at {o : List Int} (h : o.Nodup) {i : Nat} {x : Int} (e : o[i]? = some x) : ix o x = i := by
  unfold ix
  obtain ⟨hi, ex⟩ := List.getElem?_eq_some_iff.mp e
  rw [← ex, h.idxOf_getElem i hi]
theorem get_ix {o : List Int} {x : Int} (h : x ∈ o) : o[(ix o x).toNat]? = some x := by
  unfold ix
  rw [Int.toNat_natCast]
  have hi := List.idxOf_lt_length_iff.mpr h
  rw [List.getElem?_eq_getElem hi, List.getElem_idxOf]
theorem ix_take {o : List Int} (h : o.Nodup) {j : Nat} {x : Int} (e : x ∈ o.take j) : ix o x < j := by
  obtain ⟨i, hi⟩ := List.mem_iff_getElem?.mp e
  rw [List.getElem?_take] at hi
  split at hi
  · rw [ix_at h hi]
    omega
  · cases hi
/-- places that read 0, 1, .. are those of the row itself -/
theorem row_of_places {o l : List Int} (p : l.Perm o) (h : ∀ i, i < l.length → (l.map (ix o))[i]? = some (i : Int)) : l = o := by
  refine List.ext_getElem? fun i => ?_
  by_cases hi : i < l.length
  · have e := h i hi
    rw [List.getElem?_map, List.getElem?_eq_getElem hi] at e
    have e2 : ix o l[i] = i := Option.some.inj e
    have hm : l[i] ∈ o := p.mem_iff.mp (List.getElem_mem hi)
    have g := get_ix hm
    rw [e2, Int.toNat_natCast] at g
    rw [List.getElem?_eq_getElem hi, g]
  · rw [List.getElem?_eq_none (by omega), List.getElem?_eq_none (by have := p.length_eq; omega)]
theorem nd_at {l : List Int} (h : l.Nodup) {i j : Nat} {x : Int} (hi : l[i]? = some x) (hj : l[j]? = some x) : i = j := by
  obtain ⟨h1, e1⟩ := List.getElem?_eq_some_iff.mp hi
  obtain ⟨h2, e2⟩ := List.getElem?_eq_some_iff.mp hj
  exact (List.getElem_inj h).mp (e1.trans e2.symm)
/-! ### how the exchanges go on -/
theorem ix_range {o : List Int} (h : o.Nodup) : o.map (ix o) = (List.range o.length).map fun i : Nat => (i : Int) := by
  refine List.ext_getElem? fun i => ?_
  rw [List.getElem?_map, List.getElem?_map]
  by_cases hi : i < o.length
  · have e : o[i]? = some o[i] := List.getElem?_eq_getElem hi
    rw [e, List.getElem?_range hi]
    show some (ix o o[i]) = some (i : Int)
    rw [ix_at h e]
  · rw [List.getElem?_eq_none (by omega), List.getElem?_eq_none (by simp; omega)]
    rfl
theorem inv_le : ∀ l : List Int, inv l ≤ l.length * l.length
  | [] => Nat.zero_le _
  | x :: r => by
    have ih := inv_le r
    have := List.length_filter_le (fun y => decide (y < x)) r
    rw [inv_cons, List.length_cons, Nat.add_mul, Nat.mul_add]
    omega
theorem range_nodup (n : Nat) : ((List.range n).map fun i : Nat => (i : Int)).Nodup := by
  rw [List.nodup_iff_pairwise_ne, List.pairwise_map]
  exact List.Pairwise.imp (fun h e => h (by omega)) (List.nodup_iff_pairwise_ne.mp List.nodup_range)
/-- one place further down: what stands there is larger -/
theorem sink {q : List Int} {n i a : Nat} (p : q.Perm ((List.range n).map fun i : Nat => (i : Int))) (h : ∀ j, j < i → q[j]? = some (j : Int)) (ha : q[a]? = some (i : Int)) (hi : i < a) :
    a - 1 + 1 < q.length ∧ q.getD (a - 1 + 1) 0 < q.getD (a - 1) 0 ∧ (swapAt q (a - 1))[a - 1]? = some (i : Int) ∧ ∀ j, j < i → (swapAt q (a - 1))[j]? = some (j : Int) := by
  have hl := (List.getElem?_eq_some_iff.mp ha).1
  have e1 : a - 1 + 1 = a := by omega
  have hnd : q.Nodup := p.symm.nodup (range_nodup n)
  rw [e1]
  have hz : q[a - 1]? = some q[a - 1] := List.getElem?_eq_getElem (by omega)
  have mz : q[a - 1] ∈ ((List.range n).map fun i : Nat => (i : Int)) := p.mem_iff.mp (List.getElem_mem (by omega))
  obtain ⟨z, _, ez⟩ := List.mem_map.mp mz
  have n1 : ¬ z < i := fun hzi => by
    have h2 := h z hzi
    have e2 : q[a - 1]? = some (z : Int) := by rw [hz, ez]
    have := nd_at hnd h2 e2
    omega
  have n2 : z ≠ i := fun e => by
    have e2 : q[a - 1]? = some (i : Int) := by rw [hz, ← ez, e]
    have := nd_at hnd e2 ha
    omega
  refine ⟨hl, ?_, ?_, fun j hj => ?_⟩
  · rw [List.getD_eq_getElem?_getD, List.getD_eq_getElem?_getD, ha, hz, ← ez]
    show (i : Int) < (z : Int)
    omega
  · rw [swap_get (by omega), if_pos rfl, e1, ha]
  · rw [swap_get (by omega), if_neg (by omega), if_neg (by omega)]
    exact h j hj
theorem walk_places {rs os : List Int} (fs : List Nat) (f : Falls (ix os) rs fs) (p : rs.Perm os) (h : os.Nodup) : ((walk rs fs).map (ix os)).Perm ((List.range os.length).map fun i : Nat => (i : Int)) := by
  rw [← ix_range h]
  exact ((falls_perm _ fs rs f).trans p).map _
/-- a walk that ends at o takes as many swaps as stand unlike -/
theorem walk_count {rs os : List Int} {fs : List Nat} (f : Falls (ix os) rs fs) (wk : walk rs fs = os) (h : os.Nodup) : fs.length = inv (rs.map (ix os)) := by
  have e := falls_inv _ fs rs f
  rw [wk, ix_range h, List.range_eq_range', inv_sorted] at e
  omega
/-! ### closures -/
def Tr (n : Nat) (S : Nat → Nat → Prop) : Prop := ∀ a b c, a < n → b < n → c < n → S a b → S b c → S a c
/-- one middle more -/
def step (R : Nat → Nat → Prop) (m : Nat) : Nat → Nat → Prop := fun a b => R a b ∨ (R a m ∧ R m b)
def mids (R : Nat → Nat → Prop) : Nat → Nat → Nat → Prop
  | 0 => R
  | m + 1 => step (mids R m) m
theorem mids_up (R : Nat → Nat → Prop) : ∀ m a b, R a b → mids R m a b
  | 0, _, _, h => h
  | m + 1, a, b, h => .inl (mids_up R m a b h)
theorem mids_in {n : Nat} {R S : Nat → Nat → Prop} (t : Tr n S) (h : ∀ a b, a < n → b < n → R a b → S a b) : ∀ m, m ≤ n → ∀ a b, a < n → b < n → mids R m a b → S a b
  | 0, _, a, b, ha, hb, r => h a b ha hb r
  | m + 1, hm, a, b, ha, hb, r => by
    rcases r with r | ⟨r1, r2⟩
    · exact mids_in t h m (by omega) a b ha hb r
    · exact t a m b ha (by omega) hb (mids_in t h m (by omega) a m ha (by omega) r1) (mids_in t h m (by omega) m b (by omega) hb r2)
theorem mids_tr (R : Nat → Nat → Prop) : ∀ m k a b, k < m → mids R m a k → mids R m k b → mids R m a b
  | 0, _, _, _, h, _, _ => absurd h (Nat.not_lt_zero _)
  | m + 1, k, a, b, h, h1, h2 => by
    have ih := mids_tr R m
    by_cases e : k = m
    · subst e
      have a1 : mids R k a k := h1.elim id And.left
      have a2 : mids R k k b := h2.elim id And.right
      exact .inr ⟨a1, a2⟩
    · have hk : k < m := by omega
      rcases h1 with h1 | ⟨p1, p2⟩
      · rcases h2 with h2 | ⟨q1, q2⟩
        · exact .inl (ih k a b hk h1 h2)
        · exact .inr ⟨ih k a m hk h1 q1, q2⟩
      · rcases h2 with h2 | ⟨q1, q2⟩
        · exact .inr ⟨p1, ih k m b hk p2 h2⟩
        · exact .inr ⟨p1, q2⟩
theorem mids_Tr (n : Nat) (R : Nat → Nat → Prop) : Tr n (mids R n) := fun a b c _ hb _ => mids_tr R n b a c hb
/-! ### relations kept as bits -/
def rel (ms : List Nat) (a b : Nat) : Prop := (ms.getD a 0).testBit b = true
/-- row a once m has been the middle -/
def mid (ms : List Nat) (m a : Nat) : Nat := if (ms.getD a 0).testBit m = true then ms.getD a 0 ||| ms.getD m 0 else ms.getD a 0
theorem mid_self (ms : List Nat) (m : Nat) : mid ms m m = ms.getD m 0 := by
  unfold mid
  split
  · rw [Nat.or_self]
  · rfl
theorem mid_bit (ms : List Nat) (m a b : Nat) : (mid ms m a).testBit b = true ↔ step (rel ms) m a b := by
  unfold mid step rel
  split
  · rename_i h
    rw [Nat.testBit_or, Bool.or_eq_true]
    exact ⟨fun z => z.imp id fun z => ⟨h, z⟩, fun z => z.imp id And.right⟩
  · rename_i h
    exact ⟨.inl, fun z => z.elim id fun z => absurd z.1 h⟩
theorem put_bit (x f b : Nat) : (x ||| 2 ^ f).testBit b = true ↔ x.testBit b = true ∨ f = b := by
  rw [Nat.testBit_or, Bool.or_eq_true, Nat.testBit_two_pow]
  simp
theorem bit_odd (x m : Nat) : (((x : Int) / 2 ^ m) % 2 != 0) = x.testBit m := by
  rw [Nat.testBit_eq_decide_div_mod_eq]
  have e : ((x : Int) / 2 ^ m) % 2 = ((x / 2 ^ m % 2 : Nat) : Int) := by
    rw [Int.natCast_emod, Int.natCast_ediv, Int.natCast_pow]
    rfl
  rw [e]
  have := Nat.mod_two_eq_zero_or_one (x / 2 ^ m)
  rcases this with h | h <;> rw [h] <;> rfl
theorem getD_set (ms : List Nat) (a b x : Nat) (h : a < ms.length) : (ms.set a x).getD b 0 = if b = a then x else ms.getD b 0 := by
  rw [List.getD_eq_getElem?_getD, List.getElem?_set, List.getD_eq_getElem?_getD]
  by_cases e : b = a
  · subst e
    rw [if_pos rfl, if_pos h, if_pos rfl]
    rfl
  · rw [if_neg (fun z => e z.symm), if_neg e]
def PR (ps : List (Int × Int)) (a b : Nat) : Prop := ((a : Int), (b : Int)) ∈ ps
end XM
set_option maxRecDepth 100000
set_option maxHeartbeats 4000000

namespace D15
open PySem L2
def top (i : Nat) : Stmt := PySem.Challenge.pw_deeplooks_k15_exchanges.main.body.getD i (.Pass ⟨0, 0, 0, 0⟩)
abbrev s_is_int : Stmt := (top 7)
theorem sc_is_int : FnScope ["value"] ["value"] (defScope s_is_int) := ⟨rfl, rfl, rfl, by decide +kernel, rfl, by decide +kernel, by decide +kernel⟩
abbrev s_is_number : Stmt := (top 8)
theorem sc_is_number : FnScope ["value", "low", "high"] ["value", "low", "high"] (defScope s_is_number) := ⟨rfl, rfl, rfl, by decide +kernel, rfl, by decide +kernel, by decide +kernel⟩
abbrev s_is_list : Stmt := (top 9)
theorem sc_is_list : FnScope ["value"] ["value"] (defScope s_is_list) := ⟨rfl, rfl, rfl, by decide +kernel, rfl, by decide +kernel, by decide +kernel⟩
abbrev s_is_set : Stmt := (top 10)
theorem sc_is_set : FnScope ["value", "many", "member"] ["value", "many"] (defScope s_is_set) := ⟨rfl, rfl, rfl, by decide +kernel, rfl, by decide +kernel, by decide +kernel⟩
abbrev s_is_pair : Stmt := (top 12)
theorem sc_is_pair : FnScope ["value", "many", "part"] ["value", "many"] (defScope s_is_pair) := ⟨rfl, rfl, rfl, by decide +kernel, rfl, by decide +kernel, by decide +kernel⟩
structure Txt (K : PySem.W.Frag) (mg : Str → Option Value) (CO : Addr) : Prop where
  b_len : mg "len" = none
  b_set : mg "set" = none
  b_all : mg "all" = none
  b_any : mg "any" = none
  b_sum : mg "sum" = none
  b_min : mg "min" = none
  b_max : mg "max" = none
  b_isinstance : mg "isinstance" = none
  b_int : mg "int" = none
  b_bool : mg "bool" = none
  b_list : mg "list" = none
  b_tuple : mg "tuple" = none
  b_range : mg "range" = none
  b_enumerate : mg "enumerate" = none
  cl_O : Cls K CO
  n_size : NoAttr K CO "size"
  n_pairs : NoAttr K CO "pairs"
  n__behind : NoAttr K CO "_behind"
  n__ahead : NoAttr K CO "_ahead"
  g_Order : mg "Order" = some (.ref CO)
  g_MOST_NUMBERS : ∃ t, mg "MOST_NUMBERS" = some (.int 16 t)
/-! ### what these defs are worth -/
def isI : V → Bool
  | .int _ => true
  | _ => false
def intsOf (xs : List V) : List Int := xs.filterMap fun v => match v with | .int i => some i | _ => none
def setB (xs : List V) (many : Int) : Bool := xs.all (fun v => numB v 0 (many - 1)) && decide ((intsOf xs).Nodup)
theorem intsOf_map : ∀ ns : List Int, intsOf (ns.map V.int) = ns
  | [] => rfl
  | n :: r => by
    show n :: intsOf (r.map V.int) = n :: r
    rw [intsOf_map r]
theorem all_num : ∀ {xs : List V} {lo hi : Int}, xs.all (fun v => numB v lo hi) = true → xs = (intsOf xs).map V.int
  | [], _, _, _ => rfl
  | v :: r, lo, hi, h => by
    rw [List.all_cons, Bool.and_eq_true] at h
    cases v with
    | int i =>
      show V.int i :: r = V.int i :: (intsOf r).map V.int
      rw [← all_num h.2]
    | _ => exact absurd h.1 (by simp [numB])
def spIsInt : Sp := fun vs H Q _ => ∃ v, vs = [v] ∧ Pl H v ∧ Q (.bl (isI v)) H
def spIsNumber : Sp := fun vs H Q _ => ∃ v lo hi, vs = [v, .int lo, .int hi] ∧ Pl H v ∧ Q (.bl (numB v lo hi)) H
def spIsList : Sp := fun vs H Q _ => ∃ v, vs = [v] ∧ Pl H v ∧ ∀ H', Same H H' → Q (.bl (kiS v)) H'
def spIsSet : Sp := fun vs H Q _ => ∃ v many, vs = [v, .int many] ∧ ((Pl H v ∧ kiS v = false ∧ ∀ H', Same H H' → Q (.bl false) H') ∨
  ∃ a xs, v = .ref a ∧ Seq H a xs ∧ (∀ x ∈ xs, Pl H x) ∧ xs.length ≤ 4000 ∧ ∀ H', Same H H' → Q (.bl (setB xs many)) H')
def spIsPair : Sp := fun vs H Q _ => ∃ a x y many, vs = [.ref a, .int many] ∧ H a = some (.tup [x, y]) ∧ Pl H x ∧ Pl H y ∧ ∀ H', Same H H' → Q (.bl (numB x 0 (many - 1) && numB y 0 (many - 1))) H'
section
variable {P : Program} {w : World} {K : PySem.W.Frag} {mg : Str → Option Value} {base : Heap} {CO : Addr}
theorem ok_is_int {f : Addr} {fd : FuncData} (F : Fun K "is_int" "is_int" s_is_int f fd) (T : Txt K mg CO) : FnOk P w K mg base CX0 1 f fd ["value"] spIsInt := by
  refine F.ok sc_is_int (fun vs H Q E h => ?_) (fun cdv A outer s H vs Q E hr h => ?_)
  · obtain ⟨v, rfl, _⟩ := h
    rfl
  · obtain ⟨v, rfl, pl, q⟩ := h
    refine ⟨_, (pss_one (ps_ret (pe_and (pe_callB c_isi0 (by rfl) T.b_isinstance (by decide +kernel) (pa_cons (pv 0) (pa_cons (pe_bltn (v := .ty "int") (by rfl) T.b_int (by decide +kernel) rfl) pa_nil))) (pe_one (pe_not (pe_callB c_isi0 (by rfl) T.b_isinstance (by decide +kernel) (pa_cons (pv 0) (pa_cons (pe_bltn (v := .ty "bool") (by rfl) T.b_bool (by decide +kernel) rfl) pa_nil)))))))), ?_⟩
    refine ⟨_, rfl, v, pl, .inl ⟨rfl, kiI v, rfl, ?_⟩⟩
    cases pl with
    | int i => exact if_t rfl ⟨_, rfl, _, .int i, .inr ⟨rfl, _, rfl, q⟩⟩
    | bl b => exact if_t rfl ⟨_, rfl, _, .bl b, .inr ⟨rfl, _, rfl, q⟩⟩
    | non => exact iteF q
    | str x => exact iteF q
    | sq h => exact iteF q
theorem ok_is_number {f : Addr} {fd : FuncData} (F : Fun K "is_number" "is_number" s_is_number f fd) (T : Txt K mg CO) (c_is_int : CalD P w K mg base CX0 1 "is_int" spIsInt) : FnOk P w K mg base CX0 2 f fd ["value", "low", "high"] spIsNumber := by
  refine F.ok sc_is_number (fun vs H Q E h => ?_) (fun cdv A outer s H vs Q E hr h => ?_)
  · obtain ⟨v, lo, hi, rfl, _⟩ := h
    rfl
  · obtain ⟨v, lo, hi, rfl, pl, q⟩ := h
    refine ⟨_, (pss_one (ps_ret (pe_and (pe_f c_is_int hr (by decide) pass0 rfl (pa_cons (pv 0) pa_nil)) (pe_and (pe_cmpR op_ge (pv 0) (pv 1) (nomark _)) (pe_one (pe_or (pe_cmpR op_isN (pv 2) pe_non (nomark _)) (pe_one (pe_cmpR op_le (pv 0) (pv 2) (nomark _))))))))), ?_⟩
    refine ⟨_, rfl, v, rfl, pl, isI v, rfl, ?_⟩
    cases v with
    | int i =>
      refine if_t rfl ⟨_, rfl, _, rfl, _, _, rfl, rfl, _, rfl, ?_⟩
      have e : numB (.int i) lo hi = (decide (lo ≤ i) && decide (i ≤ hi)) := rfl
      rw [e] at q
      by_cases h1 : lo ≤ i
      · refine if_t (decide_eq_true h1) ⟨_, rfl, rfl, _, rfl, ?_⟩
        refine if_f (by simp) ⟨_, rfl, _, rfl, _, _, rfl, rfl, ?_⟩
        rw [decide_eq_true h1, Bool.true_and] at q
        exact q
      · refine if_f (by simp [h1]) ?_
        rw [decide_eq_false h1, Bool.false_and] at q
        exact q
    | _ => exact iteF q
theorem ok_is_list {f : Addr} {fd : FuncData} (F : Fun K "is_list" "is_list" s_is_list f fd) (T : Txt K mg CO) : FnOk P w K mg base CX0 1 f fd ["value"] spIsList := by
  refine F.ok sc_is_list (fun vs H Q E h => ?_) (fun cdv A outer s H vs Q E hr h => ?_)
  · obtain ⟨v, rfl, _⟩ := h
    rfl
  · obtain ⟨v, rfl, pl, q⟩ := h
    refine ⟨_, (pss_one (ps_ret (pe_callB c_isiS0 (by rfl) T.b_isinstance (by decide +kernel) (pa_cons (pv 0) (pa_cons (pe_tup (pa_cons (pe_bltn (v := .ty "list") (by rfl) T.b_list (by decide +kernel) rfl) (pa_cons (pe_bltn (v := .ty "tuple") (by rfl) T.b_tuple (by decide +kernel) rfl) pa_nil))) pa_nil))))), ?_⟩
    refine ⟨_, rfl, (by show 2 ≤ sizeLine; decide), fun p hp => ?_⟩
    exact ⟨v, p, rfl, upd_same, pl.same (Same.new hp), q _ (Same.new hp)⟩
theorem ok_is_set {f : Addr} {fd : FuncData} (F : Fun K "is_set" "is_set" s_is_set f fd) (T : Txt K mg CO) (c_is_list : CalD P w K mg base CX0 1 "is_list" spIsList) (c_is_number : CalD P w K mg base CX0 2 "is_number" spIsNumber) :
    FnOk P w K mg base CX0 3 f fd ["value", "many"] spIsSet := by
  refine F.ok sc_is_set (fun vs H Q E h => ?_) (fun cdv A outer s H vs Q E hr h => ?_)
  · obtain ⟨v, many, rfl, _⟩ := h
    rfl
  · obtain ⟨v, many, rfl, h⟩ := h
    refine ⟨_, (pss_cons (ps_if (pt_not (pt_val (pe_f c_is_list hr (by decide) pass0 rfl (pa_cons (pv 0) pa_nil)))) (pss_one (ps_ret pe_bl)) pss_nil)
      (pss_cons (ps_if (pt_not (pt_val (pe_callB c_all0 (by rfl) T.b_all (by decide +kernel) (pa_cons (pe_lc (own := [("member", 2)]) rfl sc_is_set.nd (pi_seq0 (pv 0)) (blkOk_by (N := ["value", "many", "member"]) (sc := (defScope s_is_set)) (by decide +kernel)) (fun _ _ _ _ _ => (pg_name (i := 2) sc_is_set.nd rfl (Or.inl rfl))) (fun _ _ _ _ _ => pts_nil) (fun _ _ _ _ _ => (pe_f c_is_number hr (by decide) pass0 rfl (pa_cons (pv 2) (pa_cons pe_int (pa_cons (pe_op op_sub (pv 1) pe_int) pa_nil)))))) pa_nil)))) (pss_one (ps_ret pe_bl)) pss_nil)
      (pss_one (ps_ret (pe_cmpR op_eq (pe_lenSetA rfl T.b_len rfl T.b_set (pv 0)) (pe_callB c_len0 (by rfl) T.b_len (by decide +kernel) (pa_cons (pv 0) pa_nil)) (nomark _)))))), ?_⟩
    rcases h with ⟨pl, hk, q⟩ | ⟨a, xs, rfl, hq, hpl, hlen, q⟩
    · refine ⟨_, rfl, v, rfl, pl, fun H1 s1 => ⟨_, rfl, ?_⟩⟩
      rw [hk]
      exact if_t rfl (q _ s1)
    · refine ⟨_, rfl, _, rfl, .sq hq, fun H1 s1 => ⟨_, rfl, ?_⟩⟩
      refine iteF ?_
      -- all([is_number(member, 0, many - 1) for member in value])
      refine ⟨_, rfl, a, xs, rfl, hq.same s1, fun J G D hD => ?_⟩
      refine lc_val xs.length (sz_small (by omega)) hD (fun i => (xs.take i).map fun v => V.bl (numB v 0 (many - 1))) G.go G.st rfl (fun i H2 x H3 Nx hi s2 y N1 N0 => ?_) (fun H2 s2 hD2 hl => ?_)
      · obtain ⟨rfl, hx⟩ := G.yl _ _ _ _ s2 y
        exact ⟨rfl, lc_yes ⟨_, rfl, _, rfl, _, _, rfl, rfl, x, 0, many - 1, rfl, (hpl x (mem_at hx)).same (s1.trans s2), N1 _ _ (Same.refl _) (take_map_succ hx)⟩⟩
      · rw [List.take_length] at hD2
        have e1 : (xs.map fun v => V.bl (numB v 0 (many - 1))) = (xs.map fun v => numB v 0 (many - 1)).map V.bl := by rw [List.map_map]; rfl
        rw [e1] at hD2
        refine ⟨D, _, rfl, hD2, _, rfl, ?_⟩
        have e2 : (xs.map fun v => numB v 0 (many - 1)).all id = xs.all fun v => numB v 0 (many - 1) := by rw [List.all_map]; rfl
        rw [e2]
        have s3 := s1.trans s2
        cases hb : xs.all fun v => numB v 0 (many - 1) with
        | false =>
          have e3 : setB xs many = false := by unfold setB; rw [hb]; rfl
          rw [e3] at q
          exact if_t rfl (q _ s3)
        | true =>
          refine iteF ?_
          have e4 := all_num hb
          have e3 : setB xs many = decide ((intsOf xs).Nodup) := by unfold setB; rw [hb]; rfl
          have hq3 : L2.Seq H2 a ((intsOf xs).map V.int) := by rw [← e4]; exact hq.same s3
          have hlen2 : (intsOf xs).length = xs.length := by
            have := congrArg List.length e4
            rw [List.length_map] at this
            exact this.symm
          refine ⟨_, rfl, a, intsOf xs, rfl, hq3.sq, by omega, fun m hm => ⟨_, rfl, a, _, rfl, hq3, rfl, ?_⟩⟩
          have e5 : decide (V.int (m : Nat) = V.int (((intsOf xs).map V.int).length : Nat)) = setB xs many := by
            rw [e3, List.length_map]
            by_cases hn : (intsOf xs).Nodup
            · rw [decide_eq_true hn, hm.mpr hn]
              exact decide_eq_true rfl
            · rw [decide_eq_false hn]
              refine decide_eq_false fun z => hn (hm.mp ?_)
              injection z with z
              omega
          rw [e5]
          exact q _ s3
theorem ok_is_pair {f : Addr} {fd : FuncData} (F : Fun K "is_pair" "is_pair" s_is_pair f fd) (T : Txt K mg CO) (c_is_list : CalD P w K mg base CX0 1 "is_list" spIsList) (c_is_number : CalD P w K mg base CX0 2 "is_number" spIsNumber) :
    FnOk P w K mg base CX0 3 f fd ["value", "many"] spIsPair := by
  refine F.ok sc_is_pair (fun vs H Q E h => ?_) (fun cdv A outer s H vs Q E hr h => ?_)
  · obtain ⟨a, x, y, many, rfl, _⟩ := h
    rfl
  · obtain ⟨a, x, y, many, rfl, ha, px, py, q⟩ := h
    refine ⟨_, (pss_one (ps_ret (pe_and (pe_f c_is_list hr (by decide) pass0 rfl (pa_cons (pv 0) pa_nil)) (pe_and (pe_cmpR op_eq (pe_callB c_len0 (by rfl) T.b_len (by decide +kernel) (pa_cons (pv 0) pa_nil)) pe_int (nomark _)) (pe_one (pe_callB c_all0 (by rfl) T.b_all (by decide +kernel) (pa_cons (pe_lc (own := [("part", 2)]) rfl sc_is_pair.nd (pi_seq0 (pv 0)) (blkOk_by (N := ["value", "many", "part"]) (sc := (defScope s_is_pair)) (by decide +kernel)) (fun _ _ _ _ _ => (pg_name (i := 2) sc_is_pair.nd rfl (Or.inl rfl))) (fun _ _ _ _ _ => pts_nil) (fun _ _ _ _ _ => (pe_f c_is_number hr (by decide) pass0 rfl (pa_cons (pv 2) (pa_cons pe_int (pa_cons (pe_op op_sub (pv 1) pe_int) pa_nil)))))) pa_nil))))))), ?_⟩
    refine ⟨_, rfl, _, rfl, .sq (.inr ha), fun H1 s1 => ⟨true, rfl, ?_⟩⟩
    refine if_t rfl ⟨_, rfl, a, _, rfl, .inr (s1 _ _ ha), rfl, true, rfl, ?_⟩
    refine if_t rfl ⟨_, rfl, a, [x, y], rfl, .inr (s1 _ _ ha), fun J G D hD => ?_⟩
    refine lc_val 2 (sz_small (by omega)) hD (fun i => ([x, y].take i).map fun v => V.bl (numB v 0 (many - 1))) G.go G.st rfl (fun i H2 z H3 Nx hi s2 y' N1 N0 => ?_) (fun H2 s2 hD2 hl => ?_)
    · obtain ⟨rfl, hx⟩ := G.yl _ _ _ _ s2 y'
      have pz : Pl H z := by
        rcases List.mem_cons.mp (mem_at hx) with e | e
        · rw [e]; exact px
        · rw [List.mem_singleton.mp e]; exact py
      exact ⟨rfl, lc_yes ⟨_, rfl, _, rfl, _, _, rfl, rfl, z, 0, many - 1, rfl, pz.same (s1.trans s2), N1 _ _ (Same.refl _) (take_map_succ hx)⟩⟩
    · refine ⟨D, [numB x 0 (many - 1), numB y 0 (many - 1)], rfl, hD2, ?_⟩
      have e : [numB x 0 (many - 1), numB y 0 (many - 1)].all id = (numB x 0 (many - 1) && numB y 0 (many - 1)) := by simp
      rw [e]
      exact q _ (s1.trans s2)
end
end D15
set_option maxRecDepth 100000
set_option maxHeartbeats 4000000

namespace D15
open PySem L2
abbrev s_DeepError___init__ : Stmt := (inClass (top 2) 0)
theorem sc_DeepError___init__ : FnScope ["self", "told"] ["self", "told"] (defScope s_DeepError___init__) := ⟨rfl, rfl, rfl, by decide +kernel, rfl, by decide +kernel, by decide +kernel⟩
abbrev s_BadRow___init__ : Stmt := (inClass (top 5) 0)
theorem sc_BadRow___init__ : FnScope ["self", "place"] ["self", "place"] (defScope s_BadRow___init__) := ⟨rfl, rfl, rfl, by decide +kernel, rfl, by decide +kernel, by decide +kernel⟩
abbrev s__places : Stmt := (top 20)
theorem sc__places : FnScope ["row", "other", "place", "k", "number"] ["row", "other"] (defScope s__places) := ⟨rfl, rfl, rfl, by decide +kernel, rfl, by decide +kernel, by decide +kernel⟩
abbrev s_is_row : Stmt := (top 15)
theorem sc_is_row : FnScope ["order", "row", "place", "k", "number", "e", "f"] ["order", "row"] (defScope s_is_row) := ⟨rfl, rfl, rfl, by decide +kernel, rfl, by decide +kernel, by decide +kernel⟩
abbrev s__holds_each_once : Stmt := (top 19)
theorem sc__holds_each_once : FnScope ["row"] ["row"] (defScope s__holds_each_once) := ⟨rfl, rfl, rfl, by decide +kernel, rfl, by decide +kernel, by decide +kernel⟩
abbrev s_unlike : Stmt := (top 17)
theorem sc_unlike : FnScope ["row", "other", "places", "k", "place", "behind"] ["row", "other"] (defScope s_unlike) := ⟨rfl, rfl, rfl, by decide +kernel, rfl, by decide +kernel, by decide +kernel⟩
abbrev s_exchanges : Stmt := (top 18)
theorem sc_exchanges : FnScope ["order", "row", "other", "places", "found", "wanted", "at"] ["order", "row", "other"] (defScope s_exchanges) := ⟨rfl, rfl, rfl, by decide +kernel, rfl, by decide +kernel, by decide +kernel⟩
def spPlaces : Sp := fun vs H Q _ => ∃ (a b : Addr) (rs os : List Int), vs = [.ref a, .ref b] ∧ L2.Seq H a (rs.map V.int) ∧ L2.Seq H b (os.map V.int) ∧ os.Nodup ∧ (∀ x ∈ rs, x ∈ os) ∧ rs.length ≤ 4000 ∧ os.length ≤ 4000 ∧
  ∀ p H', Same H H' → H p = none → H' p = some (.lst ((rs.map (XM.ix os)).map V.int)) → Q (.ref p) H'
/-- what a value is: no sequence, or one of these items -/
inductive Sh (H : Hp) : V → Option (List V) → Prop
  | no {v : V} (pl : Pl H v) (hk : kiS v = false) : Sh H v none
  | yes {a : Addr} {xs : List V} (hq : L2.Seq H a xs) (hpl : ∀ x ∈ xs, Pl H x) (hlen : xs.length ≤ 4000) : Sh H (.ref a) (some xs)
theorem Sh.pl {H : Hp} {v : V} {o : Option (List V)} (h : Sh H v o) : Pl H v := by
  cases h with
  | no pl _ => exact pl
  | yes hq _ _ => exact .sq hq
theorem Sh.same {H H' : Hp} {v : V} {o : Option (List V)} (h : Sh H v o) (s : Same H H') : Sh H' v o := by
  cases h with
  | no pl hk => exact .no (pl.same s) hk
  | yes hq hpl hlen => exact .yes (hq.same s) (fun x hx => (hpl x hx).same s) hlen
def eachO : Option (List V) → Bool
  | none => false
  | some xs => setB xs xs.length
def spEach : Sp := fun vs H Q _ => ∃ v o, vs = [v] ∧ Sh H v o ∧ ∀ H', Same H H' → Q (.bl (eachO o)) H'
def rowB (n : Int) (ps : List (Int × Int)) : Option (List V) → Bool
  | none => false
  | some xs => decide ((xs.length : Int) = n) && (setB xs n && ps.all fun p => decide (XM.ix (intsOf xs) p.1 < XM.ix (intsOf xs) p.2))
/-- an Order stands at o: its size, its pairs (a tuple of tuples) -/
def PairsAt (H : Hp) (xs : List V) (ps : List (Int × Int)) : Prop := xs.length = ps.length ∧ ∀ (i : Nat) (t : V), xs[i]? = some t → ∃ a e f, t = .ref a ∧ ps[i]? = some (e, f) ∧ H a = some (.tup [.int e, .int f])
theorem PairsAt.same {H H' : Hp} {xs : List V} {ps : List (Int × Int)} (h : PairsAt H xs ps) (s : Same H H') : PairsAt H' xs ps := ⟨h.1, fun i t ht =>
  let ⟨a, e, f, e1, e2, e3⟩ := h.2 i t ht
  ⟨a, e, f, e1, e2, s _ _ e3⟩⟩
def OrderAt (CO : Addr) (H : Hp) (o : Addr) (n : Int) (ps : List (Int × Int)) : Prop :=
  ∃ dx fs p xs, H o = some (.ins CO dx fs) ∧ fs.lookup ("size" : Str) = some (.int n) ∧ fs.lookup ("pairs" : Str) = some (.ref p) ∧ H p = some (.tup xs) ∧ PairsAt H xs ps
theorem OrderAt.same {CO o : Addr} {H H' : Hp} {n : Int} {ps : List (Int × Int)} (h : OrderAt CO H o n ps) (s : Same H H') : OrderAt CO H' o n ps :=
  let ⟨dx, fs, p, xs, h1, h2, h3, h4, h5⟩ := h
  ⟨dx, fs, p, xs, s _ _ h1, h2, h3, s _ _ h4, h5.same s⟩
def spIsRow (CO : Addr) : Sp := fun vs H Q _ => ∃ (o : Addr) (v : V) (u : Option (List V)) (n : Nat) (ps : List (Int × Int)), vs = [.ref o, v] ∧ OrderAt CO H o n ps ∧ (∀ p ∈ ps, 0 ≤ p.1 ∧ p.1 < n ∧ 0 ≤ p.2 ∧ p.2 < n) ∧ ps.length ≤ 4000 ∧ Sh H v u ∧
  ∀ H', Same H H' → Q (.bl (rowB n ps u)) H'
def goodU (o1 o2 : Option (List V)) : Bool := eachO o1 && (eachO o2 && match o1, o2 with
  | some xs, some ys => decide (xs.length = ys.length)
  | _, _ => false)
def itemsO : Option (List V) → List Int
  | none => []
  | some xs => intsOf xs
def spUnlike (CR : Addr) : Sp := fun vs H Q E => ∃ v u o1 o2, vs = [v, u] ∧ Sh H v o1 ∧ Sh H u o2 ∧ (goodU o1 o2 = true → ∀ H', Same H H' → Q (.int (XM.inv ((itemsO o1).map (XM.ix (itemsO o2))) : Nat)) H') ∧
  (goodU o1 o2 = false → ∀ d H', Er "place" (.int (-1)) H H' d → E (.ref CR) (some d) H')
section
variable {P : Program} {w : World} {K : PySem.W.Frag} {mg : Str → Option Value} {base : Heap} {CO CR CD : Addr}
theorem placeD_ix {os : List Int} {kvs : List (Key × V)} {x : Int} (p : PlaceD os os.length kvs) (h : x ∈ os) : valV kvs (Sum.inl x) = some (.int (XM.ix os x)) := by
  have g := XM.get_ix h
  have hi := (List.getElem?_eq_some_iff.mp g).1
  rw [p _ x hi g]
  have e : (((XM.ix os x).toNat : Nat) : Int) = XM.ix os x := Int.toNat_of_nonneg (XM.ix_nonneg os x)
  rw [e]
theorem each_ints {xs : List V} (h : eachO (some xs) = true) : xs = (intsOf xs).map V.int ∧ (intsOf xs).Nodup ∧ (intsOf xs).length = xs.length := by
  have h' : setB xs xs.length = true := h
  unfold setB at h'
  obtain ⟨ha, hd⟩ := Bool.and_eq_true_iff.mp h'
  have e4 := all_num ha
  exact ⟨e4, of_decide_eq_true hd, by
    have := congrArg List.length e4
    rw [List.length_map] at this
    exact this.symm⟩
theorem setB_in {xs : List V} {n : Int} (h : setB xs n = true) : ∀ x ∈ intsOf xs, 0 ≤ x ∧ x < n := fun x hx => by
  unfold setB at h
  obtain ⟨ha, hd⟩ := Bool.and_eq_true_iff.mp h
  have e4 := all_num ha
  have hm : V.int x ∈ xs := by rw [e4]; exact List.mem_map.mpr ⟨x, hx, rfl⟩
  have := List.all_eq_true.mp ha _ hm
  simp only [numB, Bool.and_eq_true, decide_eq_true_eq] at this
  omega
theorem each_in {xs : List V} (h : eachO (some xs) = true) : ∀ x ∈ intsOf xs, 0 ≤ x ∧ x < xs.length := setB_in (n := xs.length) h
theorem cutV_from {xs : List V} {k : Nat} (h : k ≤ xs.length) : cutV xs (some (k : Int)) none = xs.drop k := by
  unfold cutV
  rw [HT.sIx_nat, HT.sIx_none, Nat.min_eq_left h]
  exact List.take_of_length_le (by rw [List.length_drop]; omega)
/-- n different numbers below n are all of them -/
theorem setB_mem {xs : List V} {n : Nat} (h : setB xs n = true) (e : (xs.length : Int) = (n : Int)) : ∀ k : Int, 0 ≤ k → k < n → k ∈ intsOf xs := fun k h0 h1 => by
  unfold setB at h
  obtain ⟨ha, hd⟩ := Bool.and_eq_true_iff.mp h
  have hnd := of_decide_eq_true hd
  have e4 := all_num ha
  have hl : (intsOf xs).length = xs.length := by
    have := congrArg List.length e4
    rw [List.length_map] at this
    exact this.symm
  have hb : ∀ j ∈ intsOf xs, j ∈ (List.range n).map fun i : Nat => (i : Int) := fun j hj => by
    have hm : V.int j ∈ xs := by rw [e4]; exact List.mem_map.mpr ⟨j, hj, rfl⟩
    have := List.all_eq_true.mp ha _ hm
    simp only [numB, Bool.and_eq_true, decide_eq_true_eq] at this
    exact List.mem_map.mpr ⟨j.toNat, List.mem_range.mpr (by omega), by omega⟩
  have p := perm_of_nodup_sub (intsOf xs) ((List.range n).map fun i : Nat => (i : Int)) hnd hb (by simp; omega)
  exact p.mem_iff.mp (List.mem_map.mpr ⟨k.toNat, List.mem_range.mpr (by omega), by omega⟩)
theorem ok_deep {f : Addr} {fd : FuncData} (F : Fun K "__init__" "DeepError.__init__" s_DeepError___init__ f fd) : FnOk P w K mg base CX0 1 f fd ["self", "told"] (spDeep K) := by
  refine F.ok sc_DeepError___init__ (fun vs H Q E h => ?_) (fun cdv A outer s H vs Q E hr h => ?_)
  · obtain ⟨a, C, x, rfl, _⟩ := h
    rfl
  · obtain ⟨a, C, x, rfl, T, n, ha, q⟩ := h
    exact ⟨_, (pss_one (ps_erset (pv 0) (pv 1))), deep_read rfl rfl T n ha q⟩
theorem ok_badrow {f g : Addr} {fd fdD : FuncData} {mc : Value} (F : Fun K "__init__" "BadRow.__init__" s_BadRow___init__ f fd) (TR : ErC K CR) (n1 : PySem.W.findIn K (.ref CR) "_told" = some none) (n2 : PySem.W.findIn K (.ref CR) "place" = some none)
    (FD : Fun K "__init__" "DeepError.__init__" s_DeepError___init__ g fdD) (rD : ClX.CRead K CD mc) (cD : ClX.CVal K CD mc "__init__" (.ref g) (.ref g)) (kD : PySem.W.keepIn K (.ref g) = true) (bD : Binds K fdD ["self", "told"] []) (gD : mg "DeepError" = some (.ref CD)) :
    FnOk P w K mg base CX0 2 f fd ["self", "place"] (spErr CR "place") := by
  have G1 : FnOk P w K mg base CX0 1 g fdD ["self", "told"] (spDeep K) := ok_deep FD
  refine F.ok sc_BadRow___init__ (fun vs H Q E h => ?_) (fun cdv A outer s H vs Q E hr h => ?_)
  · obtain ⟨a, x, rfl, _⟩ := h
    rfl
  · obtain ⟨a, x, rfl, ha, q⟩ := h
    refine ⟨_, (pss_cons (ps_expr (pe_cdef rD cD G1 hr kD bD .nil pass0 rfl gD (pa_cons (pv 0) (pa_cons (pv 1) pa_nil))))
      (pss_one (ps_erset (pv 0) (pv 1)))), ?_⟩
    refine ⟨_, rfl, _, rfl, a, CR, x, rfl, TR, n1, ha, fun dx hd ne => ?_⟩
    exact ⟨_, rfl, _, rfl, a, CR, rfl, TR, n2, .inr ⟨dx, _, upd_same, by rw [upd_ne ne, upd_same], by simp, q dx hd ne⟩⟩
theorem ok_places {f : Addr} {fd : FuncData} (F : Fun K "_places" "_places" s__places f fd) (T : Txt K mg CO) : FnOk P w K mg base CX0 1 f fd ["row", "other"] spPlaces := by
  refine F.ok sc__places (fun vs H Q E h => ?_) (fun cdv A outer s H vs Q E hr h => ?_)
  · obtain ⟨a, b, rs, os, rfl, _⟩ := h
    rfl
  · obtain ⟨a, b, rs, os, rfl, hR, hO, hnd, hin, hl1, hl2, q⟩ := h
    refine ⟨_, (pss_cons (ps_set (i := 2) sc__places.nd rfl (Or.inr rfl) (pe_dc (own := [("k", 3), ("number", 4)]) rfl sc__places.nd (pi_enum0 rfl T.b_enumerate (pa_cons (pv 1) pa_nil)) (blkOk_by (N := ["row", "other", "place", "k", "number"]) (sc := (defScope s__places)) (by decide +kernel)) (fun _ _ _ _ _ => (pg_tup0 (n := 2) rfl (pgs_cons (pg_name (i := 3) sc__places.nd rfl (Or.inl rfl)) (pgs_cons (pg_name (i := 4) sc__places.nd rfl (Or.inl rfl)) pgs_nil)))) (fun _ _ _ _ _ => pts_nil) (fun _ _ _ _ _ => (pv 4)) (fun _ _ _ _ _ => (pv 3))))
      (pss_one (ps_ret (pe_lc (own := [("number", 4)]) rfl sc__places.nd (pi_seq0 (pv 0)) (blkOk_by (N := ["row", "other", "place", "k", "number"]) (sc := (defScope s__places)) (by decide +kernel)) (fun _ _ _ _ _ => (pg_name (i := 4) sc__places.nd rfl (Or.inl rfl))) (fun _ _ _ _ _ => pts_nil) (fun _ _ _ _ _ => (pe_dget (hu_of hr) (pv 2) (pv 4) (fun _ _ => rfl))))))), ?_⟩
    refine ⟨_, rfl, b, _, rfl, hO, fun J G D hD => ?_⟩
    refine dc_go os.length (sz_small (by omega)) hD (PlaceD os) (by rw [← List.length_map (f := V.int)]; exact G.go) (by rw [← List.length_map (f := V.int)]; exact G.st) (fun j x hj _ => absurd hj (Nat.not_lt_zero _)) (fun i kvs H2 x H3 Nx hi p s2 hk y N1 => ?_) (fun kvs H2 s2 hk p => ?_)
    · obtain ⟨t, x, rfl, ht, rfl, hx⟩ := G.yl _ _ _ _ s2 y
      obtain ⟨z, hz, rfl⟩ := ints_at hx
      refine ⟨t, _, rfl, upd_same, rfl, _, _, rfl, _, _, rfl, rfl, rfl, ?_⟩
      exact lc_yes2 ⟨_, rfl, _, rfl, N1 (.inl z) _ _ _ rfl (Same.new ht) (placeD_put hnd hz p)⟩
    · have hR2 := hR.same s2
      refine ⟨_, rfl, a, _, rfl, hR2, fun J2 G2 D2 hD2 => ?_⟩
      refine lc_val rs.length (sz_small (by omega)) hD2 (fun i => (rs.take i).map fun x => V.int (XM.ix os x)) (by rw [← List.length_map (f := V.int)]; exact G2.go) (by rw [← List.length_map (f := V.int)]; exact G2.st) rfl (fun i H3 x H4 Nx hi s3 y N1 N0 => ?_) (fun H3 s3 hD3 hl => ?_)
      · obtain ⟨rfl, hx⟩ := G2.yl _ _ _ _ s3 y
        obtain ⟨z, hz, rfl⟩ := ints_at hx
        have hg := placeD_ix p (hin z (mem_at hz))
        exact ⟨rfl, lc_yes2 ⟨_, rfl, _, rfl, D, _, rfl, by rw [← hg]; exact DGet.k (k := Sum.inl z) (s3 _ _ hk), N1 _ _ (Same.refl _) (take_map_succ hz)⟩⟩
      · rw [List.take_length] at hD3
        refine q D2 H3 (s2.trans s3) (s2.free hD2) ?_
        rw [hD3, List.map_map]
        rfl
theorem ok_each {f : Addr} {fd : FuncData} (F : Fun K "_holds_each_once" "_holds_each_once" s__holds_each_once f fd) (T : Txt K mg CO) (c_is_list : CalD P w K mg base CX0 1 "is_list" spIsList) (c_is_set : CalD P w K mg base CX0 3 "is_set" spIsSet) :
    FnOk P w K mg base CX0 4 f fd ["row"] spEach := by
  refine F.ok sc__holds_each_once (fun vs H Q E h => ?_) (fun cdv A outer s H vs Q E hr h => ?_)
  · obtain ⟨v, o, rfl, _⟩ := h
    rfl
  · obtain ⟨v, o, rfl, sh, q⟩ := h
    refine ⟨_, (pss_one (ps_ret (pe_and (pe_f c_is_list hr (by decide) pass0 rfl (pa_cons (pv 0) pa_nil)) (pe_one (pe_f c_is_set hr (by decide) pass0 rfl (pa_cons (pv 0) (pa_cons (pe_callB c_len0 (by rfl) T.b_len (by decide +kernel) (pa_cons (pv 0) pa_nil)) pa_nil))))))), ?_⟩
    refine ⟨_, rfl, v, rfl, sh.pl, fun H1 s1 => ⟨_, rfl, ?_⟩⟩
    cases sh with
    | no pl hk =>
      rw [hk]
      exact iteF (q _ s1)
    | @yes a xs hq hpl hlen =>
      exact if_t rfl ⟨_, rfl, _, rfl, a, xs, rfl, hq.same s1, _, _, rfl, .inr ⟨a, xs, rfl, hq.same s1, fun x hx => (hpl x hx).same s1, hlen, fun H2 s2 => q _ (s1.trans s2)⟩⟩
theorem ok_is_row {f : Addr} {fd : FuncData} (F : Fun K "is_row" "is_row" s_is_row f fd) (T : Txt K mg CO) (c_is_list : CalD P w K mg base CX0 1 "is_list" spIsList) (c_is_set : CalD P w K mg base CX0 3 "is_set" spIsSet) :
    FnOk P w K mg base CX0 4 f fd ["order", "row"] (spIsRow CO) := by
  refine F.ok sc_is_row (fun vs H Q E h => ?_) (fun cdv A outer s H vs Q E hr h => ?_)
  · obtain ⟨o, v, u, n, ps, rfl, _⟩ := h
    rfl
  · obtain ⟨o, v, u, n, ps, rfl, ho, hps, hn, sh, q⟩ := h
    refine ⟨_, (pss_cons (ps_if (PW.pt (pw_or (pt_not (pt_val (pe_f c_is_list hr (by decide) pass0 rfl (pa_cons (pv 1) pa_nil)))) (pw_or (pt_cmpR op_ne (pe_callB c_len0 (by rfl) T.b_len (by decide +kernel) (pa_cons (pv 1) pa_nil)) (pe_fld0 T.cl_O T.n_size (pv 0)) (nomark _)) (pw_or1 (pt_not (pt_val (pe_f c_is_set hr (by decide) pass0 rfl (pa_cons (pv 1) (pa_cons (pe_fld0 T.cl_O T.n_size (pv 0)) pa_nil))))))))) (pss_one (ps_ret pe_bl)) pss_nil)
      (pss_cons (ps_set (i := 2) sc_is_row.nd rfl (Or.inr rfl) (pe_dc (own := [("k", 3), ("number", 4)]) rfl sc_is_row.nd (pi_enum0 rfl T.b_enumerate (pa_cons (pv 1) pa_nil)) (blkOk_by (N := ["order", "row", "place", "k", "number", "e", "f"]) (sc := (defScope s_is_row)) (by decide +kernel)) (fun _ _ _ _ _ => (pg_tup0 (n := 2) rfl (pgs_cons (pg_name (i := 3) sc_is_row.nd rfl (Or.inl rfl)) (pgs_cons (pg_name (i := 4) sc_is_row.nd rfl (Or.inl rfl)) pgs_nil)))) (fun _ _ _ _ _ => pts_nil) (fun _ _ _ _ _ => (pv 4)) (fun _ _ _ _ _ => (pv 3))))
      (pss_one (ps_ret (pe_callB c_all0 (by rfl) T.b_all (by decide +kernel) (pa_cons (pe_lc (own := [("e", 5), ("f", 6)]) rfl sc_is_row.nd (pi_seq0 (pe_fld0 T.cl_O T.n_pairs (pv 0))) (blkOk_by (N := ["order", "row", "place", "k", "number", "e", "f"]) (sc := (defScope s_is_row)) (by decide +kernel)) (fun _ _ _ _ _ => (pg_tup0 (n := 2) rfl (pgs_cons (pg_name (i := 5) sc_is_row.nd rfl (Or.inl rfl)) (pgs_cons (pg_name (i := 6) sc_is_row.nd rfl (Or.inl rfl)) pgs_nil)))) (fun _ _ _ _ _ => pts_nil) (fun _ _ _ _ _ => (pe_cmpR op_lt (pe_dget (hu_of hr) (pv 2) (pv 5) (fun _ _ => rfl)) (pe_dget (hu_of hr) (pv 2) (pv 6) (fun _ _ => rfl)) (nomark _)))) pa_nil)))))), ?_⟩
    refine ⟨_, rfl, v, rfl, sh.pl, fun H1 s1 => ⟨_, rfl, ?_⟩⟩
    cases sh with
    | no pl hk =>
      rw [hk]
      exact if_t rfl (q _ s1)
    | @yes a xs hq hpl hlen =>
      refine iteF ⟨_, rfl, a, xs, rfl, hq.same s1, ?_⟩
      obtain ⟨dx, fs, p, ts, h1, h2, h3, h4, h5⟩ := ho.same s1
      refine ⟨_, rfl, o, dx, fs, _, rfl, h1, h2, rfl, _, rfl, ?_⟩
      by_cases e : (xs.length : Int) = (n : Int)
      · refine if_f (by simp [e]) ⟨_, rfl, _, rfl, o, dx, fs, _, rfl, h1, h2, _, _, rfl, .inr ⟨a, xs, rfl, hq.same s1, fun x hx => (hpl x hx).same s1, hlen, fun H2 s2 => ⟨_, rfl, ?_⟩⟩⟩
        cases hb : setB xs n with
        | false =>
          have e3 : rowB n ps (some xs) = false := by simp [rowB, hb]
          rw [e3] at q
          exact if_t rfl (q _ (s1.trans s2))
        | true =>
          refine iteF ?_
          have ha : xs.all (fun v => numB v 0 ((n : Int) - 1)) = true := by
            unfold setB at hb
            exact (Bool.and_eq_true_iff.mp hb).1
          have hnd : (intsOf xs).Nodup := by
            unfold setB at hb
            exact of_decide_eq_true (Bool.and_eq_true_iff.mp hb).2
          have e4 := all_num ha
          have hl4 : (intsOf xs).length = xs.length := by
            have := congrArg List.length e4
            rw [List.length_map] at this
            exact this.symm
          have hin := setB_mem hb e
          have e3 : rowB n ps (some xs) = ps.all fun p => decide (XM.ix (intsOf xs) p.1 < XM.ix (intsOf xs) p.2) := by simp [rowB, hb, e]
          rw [e3] at q
          have hq2 : L2.Seq H2 a ((intsOf xs).map V.int) := by rw [← e4]; exact (hq.same s1).same s2
          generalize hrs : intsOf xs = rs at *
          refine ⟨_, rfl, a, _, rfl, hq2, fun J G D hD => ?_⟩
          refine dc_go rs.length (sz_small (by omega)) hD (PlaceD rs) (by rw [← List.length_map (f := V.int)]; exact G.go) (by rw [← List.length_map (f := V.int)]; exact G.st) (fun j x hj _ => absurd hj (Nat.not_lt_zero _)) (fun i kvs H3 x H4 Nx hi pp s3 hk y N1 => ?_) (fun kvs H3 s3 hk pp => ?_)
          · obtain ⟨t, x, rfl, ht, rfl, hx⟩ := G.yl _ _ _ _ s3 y
            obtain ⟨z, hz, rfl⟩ := ints_at hx
            refine ⟨t, _, rfl, upd_same, rfl, _, _, rfl, _, _, rfl, rfl, rfl, ?_⟩
            exact lc_yes2 ⟨_, rfl, _, rfl, N1 (.inl z) _ _ _ rfl (Same.new ht) (placeD_put hnd hz pp)⟩
          · have s13 : Same H1 H3 := s2.trans s3
            refine ⟨_, rfl, o, dx, fs, _, rfl, s13 _ _ h1, h3, p, ts, rfl, .inr (s13 _ _ h4), fun J2 G2 D2 hD2 => ?_⟩
            refine lc_val ts.length (sz_small (by have := h5.1; omega)) hD2 (fun i => (ps.take i).map fun p => V.bl (decide (XM.ix rs p.1 < XM.ix rs p.2))) G2.go G2.st rfl (fun i H4 x H5 Nx hi s4 y N1 N0 => ?_) (fun H4 s4 hD4 hl => ?_)
            · obtain ⟨rfl, hx⟩ := G2.yl _ _ _ _ s4 y
              obtain ⟨t, e0, f0, rfl, hp0, ht⟩ := (h5.same (s13.trans s4)).2 i x hx
              obtain ⟨b1, b2, b3, b4⟩ := hps _ (mem_at hp0)
              have g1 := placeD_ix pp (hin e0 b1 b2)
              have g2 := placeD_ix pp (hin f0 b3 b4)
              have hkd := s4 _ _ hk
              refine ⟨t, _, rfl, ht, rfl, _, _, rfl, _, _, rfl, rfl, rfl, ?_⟩
              exact lc_yes2 ⟨_, rfl, _, rfl, D, _, rfl, by rw [← g1]; exact DGet.k (k := Sum.inl e0) hkd, _, rfl, _, rfl, D, _, rfl, by rw [← g2]; exact DGet.k (k := Sum.inl f0) hkd, _, _, rfl, rfl, N1 _ _ (Same.refl _) (take_map_succ hp0)⟩
            · have hlp : ts.length = ps.length := h5.1
              rw [hlp, List.take_length] at hD4
              have e5 : (ps.map fun p => V.bl (decide (XM.ix rs p.1 < XM.ix rs p.2))) = (ps.map fun p => decide (XM.ix rs p.1 < XM.ix rs p.2)).map V.bl := by rw [List.map_map]; rfl
              rw [e5] at hD4
              refine ⟨D2, _, rfl, hD4, ?_⟩
              rw [List.all_map]
              exact q _ (s13.trans s4 |> s1.trans)
      · refine if_t (by simp [e]) ?_
        have e3 : rowB n ps (some xs) = false := by simp [rowB, e]
        rw [e3] at q
        exact q _ s1
theorem ok_unlike {f : Addr} {fd : FuncData} (F : Fun K "unlike" "unlike" s_unlike f fd) (T : Txt K mg CO) (c__holds_each_once : CalD P w K mg base CX0 4 "_holds_each_once" spEach) (c__places : CalD P w K mg base CX0 1 "_places" spPlaces)
    (d_BadRow : ErD P w K mg base 2 "BadRow" CR "place") : FnOk P w K mg base (L2.CX P w) 5 f fd ["row", "other"] (spUnlike CR) := by
  refine F.okX sc_unlike (fun vs H Q E h => ?_) (fun cdv A outer s H vs Q E hr h => ?_)
  · obtain ⟨v, u, o1, o2, rfl, _⟩ := h
    rfl
  · obtain ⟨v, u, o1, o2, rfl, sh1, sh2, qY, qN⟩ := h
    refine ⟨_, (pss_cons (ps_if (PW.pt (pw_or (pt_not (pt_val (pe_f c__holds_each_once hr (by decide) pass0 rfl (pa_cons (pv 0) pa_nil)))) (pw_or (pt_not (pt_val (pe_f c__holds_each_once hr (by decide) pass0 rfl (pa_cons (pv 1) pa_nil)))) (pw_or1 (pt_cmpR op_ne (pe_callB c_len0 (by rfl) T.b_len (by decide +kernel) (pa_cons (pv 0) pa_nil)) (pe_callB c_len0 (by rfl) T.b_len (by decide +kernel) (pa_cons (pv 1) pa_nil)) (nomark _)))))) (pss_one (ps_raise rfl (takes_of rfl rfl rfl rfl) (pmk_d d_BadRow hr (by decide) rfl (pa_cons (pe_un un_neg pe_int) pa_nil)))) pss_nil)
      (pss_cons (ps_set (i := 2) sc_unlike.nd rfl (Or.inr rfl) (pe_f c__places hr (by decide) pass0 rfl (pa_cons (pv 0) (pa_cons (pv 1) pa_nil))))
      (pss_one (ps_ret (pe_callB c_sum0 (by rfl) T.b_sum (by decide +kernel) (pa_cons (pe_lc (own := [("k", 3), ("place", 4)]) rfl sc_unlike.nd (pi_enum0 rfl T.b_enumerate (pa_cons (pv 2) pa_nil)) (blkOk_by (N := ["row", "other", "places", "k", "place", "behind"]) (sc := (defScope s_unlike)) (by decide +kernel)) (fun _ _ _ _ _ => (pg_tup0 (n := 2) rfl (pgs_cons (pg_name (i := 3) sc_unlike.nd rfl (Or.inl rfl)) (pgs_cons (pg_name (i := 4) sc_unlike.nd rfl (Or.inr rfl)) pgs_nil)))) (fun _ _ _ _ _ => pts_nil) (fun _ _ _ _ _ => (pe_callB c_len0 (by rfl) T.b_len (by decide +kernel) (pa_cons (pe_lc (own := [("behind", 5)]) rfl sc_unlike.nd (pi_seq0 (pe_slice sl0 (pv 2) (po_some (pv 3)) po_none)) (blkOk_by (N := ["row", "other", "places", "k", "place", "behind"]) (sc := ({ kind := .function, names := [(".0", .local), ("k", .local), ("place", .cell), ("len", .globalImplicit), ("places", .cell)], isGenerator := false, isCoroutine := false, more := [] })) (by decide +kernel)) (fun _ _ _ _ _ => (pg_name (i := 5) sc_unlike.nd rfl (Or.inl rfl))) (fun _ _ _ _ _ => (pts_one (pt_cmpR op_lt (pv 5) (pv 4) (nomark _)))) (fun _ _ _ _ _ => (pv 5))) pa_nil)))) pa_nil)))))), ?_⟩
    have raise_ : ∀ {H1 : Hp}, Same H H1 → goodU o1 o2 = false → ∀ d H', Er "place" (.int (-1)) H1 H' d → E (.ref CR) (some d) H' := fun {H1} s1 hb d H' e => qN hb d H' (e.back s1)
    refine ⟨_, rfl, v, o1, rfl, sh1, fun H1 s1 => ⟨_, rfl, ?_⟩⟩
    cases h1 : eachO o1 with
    | false =>
      refine if_t rfl (if_t rfl ?_)
      exact ⟨_, rfl, er_read (raise_ s1 (by unfold goodU; rw [h1]; rfl))⟩
    | true =>
      refine iteF ⟨_, rfl, u, o2, rfl, sh2.same s1, fun H2 s2 => ⟨_, rfl, ?_⟩⟩
      have s12 := s1.trans s2
      cases h2 : eachO o2 with
      | false =>
        refine if_t rfl (if_t rfl ?_)
        exact ⟨_, rfl, er_read (raise_ s12 (by unfold goodU; rw [h1, h2]; rfl))⟩
      | true =>
        cases sh1 with
        | no pl hk => exact absurd h1 Bool.false_ne_true
        | @yes a xs hq hpl hlen =>
          cases sh2 with
          | no pl hk => exact absurd h2 Bool.false_ne_true
          | @yes b ys hq2 hpl2 hlen2 =>
            refine iteF ⟨_, rfl, a, xs, rfl, hq.same s12, _, rfl, b, ys, rfl, hq2.same s12, rfl, _, rfl, ?_⟩
            by_cases e : xs.length = ys.length
            · refine if_f (by simp [e]) ?_
              obtain ⟨e4, hnd1, hl1⟩ := each_ints h1
              obtain ⟨e5, hnd2, hl2⟩ := each_ints h2
              have hin : ∀ x ∈ intsOf xs, x ∈ intsOf ys := fun x hx => by
                obtain ⟨b1, b2⟩ := each_in h1 x hx
                exact setB_mem (n := ys.length) h2 rfl x b1 (by omega)
              have hg : goodU (some xs) (some ys) = true := by unfold goodU; rw [h1, h2]; simp [e]
              have q3 := qY hg
              change ∀ H', Same H H' → Q (.int (XM.inv ((intsOf xs).map (XM.ix (intsOf ys))) : Nat)) H' at q3
              have hqa : L2.Seq H2 a ((intsOf xs).map V.int) := by rw [← e4]; exact hq.same s12
              have hqb : L2.Seq H2 b ((intsOf ys).map V.int) := by rw [← e5]; exact hq2.same s12
              generalize hrs : intsOf xs = rs at *
              generalize hos : intsOf ys = os at *
              refine ⟨_, rfl, _, rfl, a, b, rs, os, rfl, hqa, hqb, hnd2, hin, by omega, by omega, fun p H3 s3 hp hp3 => ?_⟩
              have hlp : (rs.map (XM.ix os)).length = rs.length := List.length_map _
              generalize hps : rs.map (XM.ix os) = ps at *
              refine ⟨_, rfl, p, _, rfl, .inl hp3, fun J G D hD => ?_⟩
              refine lc_val ps.length (sz_small (by omega)) hD (fun i => (List.range i).map fun k => V.int (XM.cnt ps k)) (by rw [← List.length_map (f := V.int)]; exact G.go) (by rw [← List.length_map (f := V.int)]; exact G.st) rfl (fun i H4 x H5 Nx hi s4 y N1 N0 => ?_) (fun H4 s4 hD4 hl => ?_)
              · obtain ⟨t, x, rfl, ht, rfl, hx⟩ := G.yl _ _ _ _ s4 y
                obtain ⟨z, hz, rfl⟩ := ints_at hx
                refine ⟨t, _, rfl, upd_same, rfl, _, _, rfl, _, _, rfl, rfl, rfl, ?_⟩
                have hik : i < ps.length := hi
                have hp4 := s4 _ _ hp3
                have hD4 : H4 t = none := ht
                refine lc_yes2 ⟨_, rfl, _, rfl, i, rfl, p, _, rfl, Same.new (o := .tup [.int (i : Nat), .int z]) ht _ _ hp4, fun c hc => ?_⟩
                rw [cutV_from (by rw [List.length_map]; omega), ← List.map_drop]
                refine ⟨c, _, rfl, .inl upd_same, fun J2 G2 D2 hD2 => ?_⟩
                refine lc_val (ps.drop i).length (sz_small (by rw [List.length_drop]; omega)) hD2 (fun j => (((ps.drop i).take j).filter fun y => decide (y < z)).map V.int) (by rw [← List.length_map (f := V.int)]; exact G2.go) (by rw [← List.length_map (f := V.int)]; exact G2.st) rfl (fun j H6 x2 H7 Nx2 hj s6 y2 M1 M0 => ?_) (fun H6 s6 hD6 hl6 => ?_)
                · obtain ⟨rfl, hx2⟩ := G2.yl _ _ _ _ s6 y2
                  obtain ⟨z2, hz2, rfl⟩ := ints_at hx2
                  refine ⟨rfl, _, rfl, _, rfl, _, _, rfl, rfl, ?_⟩
                  by_cases hlt : z2 < z
                  · refine ⟨_, rfl, if_t (decide_eq_true hlt) ⟨_, rfl, M1 _ _ (Same.refl _) ?_⟩⟩
                    rw [take_succ hz2, List.filter_append, List.map_append]
                    simp [hlt]
                  · refine ⟨_, rfl, if_f (by simp [hlt]) (M0 _ (Same.refl _) ?_)⟩
                    rw [take_succ hz2, List.filter_append, List.map_append]
                    simp [hlt]
                · rw [List.take_length] at hD6
                  refine ⟨D2, _, rfl, .inl hD6, N1 _ _ ?_ ?_⟩
                  · exact ((Same.new ht).add hc).trans s6
                  · rw [List.range_succ, List.map_append, List.length_map]
                    have ez : ps.getD i 0 = z := by rw [List.getD_eq_getElem?_getD, hz]; rfl
                    have ec : XM.cnt ps i = (((ps.drop i).filter fun y => decide (y < z)).length : Nat) := by
                      unfold XM.cnt
                      rw [ez]
                    rw [← ec]
                    rfl
              · refine ⟨D, (List.range ps.length).map (XM.cnt ps), rfl, by rw [List.map_map]; exact hD4, ?_⟩
                rw [XM.cnt_sum]
                exact q3 _ (s12.trans (s3.trans s4))
            · refine if_t (by simp; omega) ?_
              exact ⟨_, rfl, er_read (raise_ s12 (by unfold goodU; rw [h1, h2]; simp [e]))⟩
end
end D15
set_option maxRecDepth 100000
set_option maxHeartbeats 4000000

namespace D15
open PySem L2
/-! ### exchanges -/
/-- what stands while exchanges is at work -/
structure EI (H0 : Hp) (rs os : List Int) (p fl : Addr) (i : Nat) (fs : List Nat) (H : Hp) : Prop where
  s : Same H0 H
  hp : H p = some (.lst (((XM.walk rs fs).map (XM.ix os)).map V.int))
  hf : H fl = some (.lst (fs.map fun k : Nat => V.int (k : Int)))
  fa : XM.Falls (XM.ix os) rs fs
  at_ : ∀ j, j < i → ((XM.walk rs fs).map (XM.ix os))[j]? = some (j : Int)
def spExch (CO CR : Addr) : Sp := fun vs H Q E => ∃ (o : Addr) (v u : V) (o1 o2 : Option (List V)) (n : Nat) (ps : List (Int × Int)), vs = [.ref o, v, u] ∧ OrderAt CO H o n ps ∧ (∀ p ∈ ps, 0 ≤ p.1 ∧ p.1 < n ∧ 0 ≤ p.2 ∧ p.2 < n) ∧ ps.length ≤ 4000 ∧ n ≤ 100 ∧ Sh H v o1 ∧ Sh H u o2 ∧
  (rowB n ps o1 = true → rowB n ps o2 = true → ∀ (fs : List Nat) t H', Same H H' → H t = none → H' t = some (.tup (fs.map fun k : Nat => V.int (k : Int))) → XM.Falls (XM.ix (itemsO o2)) (itemsO o1) fs → XM.walk (itemsO o1) fs = itemsO o2 → Q (.ref t) H') ∧
  (rowB n ps o1 = false → ∀ d H', Er "place" (.int 0) H H' d → E (.ref CR) (some d) H') ∧
  (rowB n ps o1 = true → rowB n ps o2 = false → ∀ d H', Er "place" (.int 1) H H' d → E (.ref CR) (some d) H')
theorem row_ints {n : Nat} {ps : List (Int × Int)} {xs : List V} (h : rowB n ps (some xs) = true) : xs = (intsOf xs).map V.int ∧ (intsOf xs).Nodup ∧ (intsOf xs).length = n ∧ xs.length = n ∧ setB xs n = true := by
  unfold rowB at h
  simp only [Bool.and_eq_true, decide_eq_true_eq] at h
  obtain ⟨h1, h2, _⟩ := h
  have e : xs.length = n := by omega
  have h2' : eachO (some xs) = true := by
    show setB xs xs.length = true
    rw [e]
    exact h2
  obtain ⟨a, b, c⟩ := each_ints h2'
  exact ⟨a, b, by omega, e, h2⟩
theorem row_perm {n : Nat} {xs ys : List V} (h1 : setB xs n = true) (h2 : setB ys n = true) (e1 : xs.length = n) (e2 : ys.length = n) (l1 : (intsOf xs).length = n) (l2 : (intsOf ys).length = n) (n2 : (intsOf ys).Nodup) : (intsOf xs).Perm (intsOf ys) := by
  refine perm_of_nodup_sub (intsOf ys) (intsOf xs) n2 (fun k hk => ?_) (by omega)
  obtain ⟨b1, b2⟩ := setB_in h2 k hk
  exact setB_mem h1 (by omega) k b1 b2
theorem ixN_n {n j : Nat} (hj : j < n) : ixN n (j : Int) = some j := by
  unfold ixN
  rw [if_pos (Int.natCast_nonneg j), if_pos (by omega), Int.toNat_natCast]
theorem tyL {K : PySem.W.Frag} {H : Hp} {p : Addr} {xs : List V} (h : H p = some (.lst xs)) : tyV K "list" (.ref p) H := .inl ⟨rfl, _, SqL.of h⟩
theorem eqV_self (k : Int) : eqV (.int k) (.int k) = true := by show (k == k) = true; simp
theorem ix_first {ns : List Int} {j : Nat} {k : Int} (hn : ns.Nodup) (hj : ns[j]? = some k) : ∀ (m : Nat) (z' : V), m < j → (ns.map V.int)[m]? = some z' → eqV z' (.int k) = false := fun m z' hm hz => by
  obtain ⟨z, hz2, rfl⟩ := ints_at hz
  show (z == k) = false
  have : z ≠ k := fun e => by
    subst e
    have := XM.nd_at hn hz2 hj
    omega
  simpa using this
theorem set_ints (l : List Int) (i : Nat) (h : i + 1 < l.length) {x y : Int} (hx : l[i + 1]? = some x) (hy : l[i]? = some y) : (((l.map V.int).set i (V.int x)).set (i + 1) (V.int y)) = (XM.swapAt l i).map V.int := by
  unfold XM.swapAt
  rw [List.map_set, List.map_set, List.getD_eq_getElem?_getD, List.getD_eq_getElem?_getD, hx, hy]
  rfl
/-- one exchange more -/
theorem EI.next {H0 H H' : Hp} {rs os : List Int} {p fl : Addr} {i : Nat} {fs : List Nat} (I : EI H0 rs os p fl i fs H) {n a : Nat} (hn : os.length = n) (nd : os.Nodup) (pm : rs.Perm os) (ha : ((XM.walk rs fs).map (XM.ix os))[a]? = some (i : Int)) (hi : i < a)
    (s : Same H0 H') (hp : H' p = some (.lst ((XM.swapAt ((XM.walk rs fs).map (XM.ix os)) (a - 1)).map V.int))) (hf : H' fl = some (.lst ((fs ++ [a - 1]).map fun k : Nat => V.int (k : Int)))) :
    EI H0 rs os p fl i (fs ++ [a - 1]) H' ∧ ((XM.walk rs (fs ++ [a - 1])).map (XM.ix os))[a - 1]? = some (i : Int) := by
  have pr := XM.walk_places fs I.fa pm nd
  rw [hn] at pr
  obtain ⟨b1, b2, b3, b4⟩ := XM.sink pr I.at_ ha hi
  rw [List.length_map] at b1
  have e : (XM.walk rs (fs ++ [a - 1])).map (XM.ix os) = XM.swapAt ((XM.walk rs fs).map (XM.ix os)) (a - 1) := by
    rw [XM.walk_snoc, XM.swap_map _ b1]
  exact ⟨⟨s, by rw [e]; exact hp, hf, XM.falls_snoc _ fs rs _ I.fa b1 b2, fun j hj => by rw [e]; exact b4 j hj⟩, by rw [e]; exact b3⟩
theorem EI.few {H0 H : Hp} {rs os : List Int} {p fl : Addr} {i : Nat} {fs : List Nat} (I : EI H0 rs os p fl i fs H) {n : Nat} (hn : rs.length = n) (h : n ≤ 100) : fs.length ≤ 10000 := by
  have e := XM.falls_inv _ fs rs I.fa
  have b := XM.inv_le (rs.map (XM.ix os))
  rw [List.length_map, hn] at b
  have : n * n ≤ 100 * 100 := Nat.mul_le_mul h h
  omega
section
variable {P : Program} {w : World} {K : PySem.W.Frag} {mg : Str → Option Value} {base : Heap} {CO CR CD : Addr}
theorem ok_exchanges {f : Addr} {fd : FuncData} (F : Fun K "exchanges" "exchanges" s_exchanges f fd) (T : Txt K mg CO) (c_is_row : CalD P w K mg base CX0 4 "is_row" (spIsRow CO)) (c__places : CalD P w K mg base CX0 1 "_places" spPlaces)
    (d_BadRow : ErD P w K mg base 2 "BadRow" CR "place") : FnOk P w K mg base (L2.CX P w) 5 f fd ["order", "row", "other"] (spExch CO CR) := by
  refine F.okX sc_exchanges (fun vs H Q E h => ?_) (fun cdv A outer s H vs Q E hr h => ?_)
  · obtain ⟨o, v, u, o1, o2, n, ps, rfl, _⟩ := h
    rfl
  · obtain ⟨o, v, u, o1, o2, n, ps, rfl, ho, hb, hpl, hn, sh1, sh2, qY, q0, q1⟩ := h
    refine ⟨_, (pss_cons (ps_if (pt_not (pt_val (pe_f c_is_row hr (by decide) pass0 rfl (pa_cons (pv 0) (pa_cons (pv 1) pa_nil))))) (pss_one (ps_raise rfl (takes_of rfl rfl rfl rfl) (pmk_d d_BadRow hr (by decide) rfl (pa_cons pe_int pa_nil)))) pss_nil)
      (pss_cons (ps_if (pt_not (pt_val (pe_f c_is_row hr (by decide) pass0 rfl (pa_cons (pv 0) (pa_cons (pv 2) pa_nil))))) (pss_one (ps_raise rfl (takes_of rfl rfl rfl rfl) (pmk_d d_BadRow hr (by decide) rfl (pa_cons pe_int pa_nil)))) pss_nil)
      (pss_cons (ps_set (i := 3) sc_exchanges.nd rfl (Or.inl rfl) (pe_f c__places hr (by decide) pass0 rfl (pa_cons (pv 1) (pa_cons (pv 2) pa_nil))))
      (pss_cons (ps_set (i := 4) sc_exchanges.nd rfl (Or.inl rfl) (pe_lst pa_nil))
      (pss_cons (ps_for (passes_of rfl) rfl (pi_range1 rfl T.b_range (pa_cons (pe_callB c_len0 (by rfl) T.b_len (by decide +kernel) (pa_cons (pv 3) pa_nil)) pa_nil)) (pg_name (i := 5) sc_exchanges.nd rfl (Or.inl rfl)) (pss_cons (ps_set (i := 6) sc_exchanges.nd rfl (Or.inl rfl) (pe_bm PySem.F.plainAttrs_list PySem.F.slot_list_index PySem.F.type_list_index mt_index (pv 3) (pa_cons (pv 5) pa_nil)))
      (pss_one (ps_while (passes_of rfl) (pt_cmpR op_gt (pv 6) (pv 5) (nomark _)) (pss_cons (ps_set (i := 6) sc_exchanges.nd rfl (Or.inl rfl) (pe_op op_sub (pv 6) pe_int))
      (pss_cons (ps_asg (pe_tup (pa_cons (pe_ix ix0 (pv 3) (pe_op op_add (pv 6) pe_int) (fun _ _ => rfl)) (pa_cons (pe_ix ix0 (pv 3) (pv 6) (fun _ _ => rfl)) pa_nil))) (pg_tup0 (n := 2) rfl (pgs_cons (pg_sub (pv 3) (pv 6) set_list) (pgs_cons (pg_sub (pv 3) (pe_op op_add (pv 6) pe_int) set_list) pgs_nil))))
      (pss_one (ps_expr (pe_bm PySem.F.plainAttrs_list PySem.F.slot_list_append PySem.F.type_list_append mt_append (pv 4) (pa_cons (pv 6) pa_nil))))))))))
      (pss_one (ps_ret (pe_callTy c_tup0 (by rfl) T.b_tuple (by decide +kernel) (pa_cons (pv 4) pa_nil))))))))), ?_⟩
    refine ⟨_, rfl, _, rfl, o, v, o1, n, ps, rfl, ho, hb, hpl, sh1, fun H1 s1 => ⟨_, rfl, ?_⟩⟩
    cases h1 : rowB n ps o1 with
    | false => exact if_t rfl (er_read fun d H' e => q0 h1 d H' (e.back s1))
    | true =>
      refine iteF ?_
      refine ⟨_, rfl, _, rfl, o, u, o2, n, ps, rfl, ho.same s1, hb, hpl, sh2.same s1, fun H2 s2 => ⟨_, rfl, ?_⟩⟩
      have s12 := s1.trans s2
      cases h2 : rowB n ps o2 with
      | false => exact if_t rfl (er_read fun d H' e => q1 h1 h2 d H' (e.back s12))
      | true =>
        refine iteF ?_
        cases sh1 with
        | no pl hk => exact absurd h1 Bool.false_ne_true
        | @yes a xs hq hpl1 hlen =>
          cases sh2 with
          | no pl hk => exact absurd h2 Bool.false_ne_true
          | @yes b ys hq2 hpl2 hlen2 =>
            obtain ⟨e4, nd1, l1, lx, sb1⟩ := row_ints h1
            obtain ⟨e5, nd2, l2, ly, sb2⟩ := row_ints h2
            have pm := row_perm sb1 sb2 lx ly l1 l2 nd2
            have q3 := qY h1 h2
            change ∀ (fs : List Nat) t H', Same H H' → H t = none → H' t = some (.tup (fs.map fun k : Nat => V.int (k : Int))) → XM.Falls (XM.ix (intsOf ys)) (intsOf xs) fs → XM.walk (intsOf xs) fs = intsOf ys → Q (.ref t) H' at q3
            have hqa : L2.Seq H2 a ((intsOf xs).map V.int) := by rw [← e4]; exact hq.same s12
            have hqb : L2.Seq H2 b ((intsOf ys).map V.int) := by rw [← e5]; exact hq2.same s12
            generalize hrs : intsOf xs = rs at *
            generalize hos : intsOf ys = os at *
            refine ⟨_, rfl, _, rfl, a, b, rs, os, rfl, hqa, hqb, nd2, fun x hx => pm.mem_iff.mp hx, by omega, by omega, fun p H3 s3 hp hp3 => ?_⟩
            refine ⟨by show 0 ≤ sizeLine; decide, fun fl hfl => ?_⟩
            have npf : fl ≠ p := fun e => by rw [e, hp3] at hfl; cases hfl
            have hlp : ((rs.map (XM.ix os)).map V.int).length = n := by rw [List.length_map, List.length_map, l1]
            refine ⟨_, rfl, p, _, rfl, .inl (by rw [upd_ne (Ne.symm npf)]; exact hp3), _, rfl, by omega, by omega, ?_⟩
            rw [hlp, Int.toNat_natCast]
            have s03 := s12.trans s3
            refine for_it n (fun i σ H' => (∃ x y, σ = [some (.ref o), some (.ref a), some (.ref b), some (.ref p), some (.ref fl), x, y]) ∧ ∃ fs, EI H rs os p fl i fs H') ⟨⟨_, _, rfl⟩, [], s03.add hfl, by rw [upd_ne (Ne.symm npf)]; exact hp3, upd_same, trivial, fun j hj => absurd hj (Nat.not_lt_zero _)⟩ (fun i _ _ hi _ => hi) (fun _ _ _ => Nat.le_refl _) (fun i v σ H4 H5 hi pv y => ?_) (fun σ H4 pv => ?_)
            · obtain ⟨rfl, rfl⟩ := y
              obtain ⟨⟨x, y, rfl⟩, fs, I⟩ := pv
              have pr := XM.walk_places fs I.fa pm nd2
              rw [l2] at pr
              have mi : (i : Int) ∈ (XM.walk rs fs).map (XM.ix os) := pr.mem_iff.mpr (List.mem_map.mpr ⟨i, List.mem_range.mpr hi, rfl⟩)
              obtain ⟨a0, ha0⟩ := List.mem_iff_getElem?.mp mi
              have hia : i ≤ a0 := Nat.le_of_not_lt fun h => by
                have h2 := I.at_ a0 h
                rw [h2] at ha0
                injection ha0 with h3
                omega
              have e0 : (0 : Int) + (i : Nat) = (i : Nat) := Int.zero_add _
              rw [e0]
              refine ⟨_, rfl, tyL I.hp, _, rfl, p, _, .int (i : Nat), a0, .int (i : Nat), rfl, rfl, SqL.of I.hp, rfl, flat_ints _, by rw [List.getElem?_map, ha0]; rfl, eqV_self _, ix_first (pr.symm.nodup (XM.range_nodup n)) ha0, ?_⟩
              refine ⟨fun m σ H' => (∃ fs, EI H rs os p fl i fs H' ∧ ((XM.walk rs fs).map (XM.ix os))[m]? = some (i : Int)) ∧ i ≤ m ∧ σ = [some (.ref o), some (.ref a), some (.ref b), some (.ref p), some (.ref fl), some (.int (i : Nat)), some (.int (m : Nat))], ⟨a0, ⟨fs, I, ha0⟩, hia, rfl⟩, ?_⟩
              rintro m _ H6 ⟨⟨fs, I, hm⟩, him, rfl⟩
              refine ⟨_, rfl, _, rfl, _, _, rfl, rfl, _, rfl, ?_⟩
              by_cases hlt : i < m
              · refine if_t (by simp; omega) ⟨fun σ' H' => ∃ m', m' < m ∧ ((∃ fs, EI H rs os p fl i fs H' ∧ ((XM.walk rs fs).map (XM.ix os))[m']? = some (i : Int)) ∧ i ≤ m' ∧ σ' = [some (.ref o), some (.ref a), some (.ref b), some (.ref p), some (.ref fl), some (.int (i : Nat)), some (.int (m' : Nat))]), fun _ _ h => h, ?_⟩
                have em : ((m : Nat) : Int) - 1 = ((m - 1 : Nat) : Int) := by omega
                refine ⟨_, rfl, _, _, rfl, rfl, ?_⟩
                dsimp only
                rw [em]
                have hq0 := I.hp
                have hf0 := I.hf
                have hlq : ((XM.walk rs fs).map (XM.ix os)).length = n := by rw [List.length_map, XM.walk_len, l1]
                have hml : m < n := by
                  have := (List.getElem?_eq_some_iff.mp hm).1
                  omega
                have hnx : ∀ H', Same H H' → H' p = some (.lst ((XM.swapAt ((XM.walk rs fs).map (XM.ix os)) (m - 1)).map V.int)) → H' fl = some (.lst ((fs ++ [m - 1]).map fun k : Nat => V.int (k : Int))) → _ := fun H' s' hp' hf' => I.next l2 nd2 pm hm hlt s' hp' hf'
                have hfew := I.few l1 hn
                have hIs := I.s
                generalize hqs : (XM.walk rs fs).map (XM.ix os) = qs at *
                have hz : qs[m - 1]? = some (qs[m - 1]'(by omega)) := List.getElem?_eq_getElem (by omega)
                generalize qs[m - 1]'(by omega) = z at hz
                have em1 : ((m - 1 : Nat) : Int) + 1 = (m : Nat) := by omega
                have hm2 : qs[m - 1 + 1]? = some (i : Int) := by rw [Nat.sub_add_cancel (by omega)]; exact hm
                have hvm : (qs.map V.int)[m]? = some (.int (i : Nat)) := by rw [List.getElem?_map, hm]; rfl
                have hvz : (qs.map V.int)[m - 1]? = some (.int z) := by rw [List.getElem?_map, hz]; rfl
                have hlv : (qs.map V.int).length = n := by rw [List.length_map, hlq]
                refine ⟨_, rfl, _, rfl, _, _, rfl, rfl, p, _, ((m - 1 : Nat) : Int) + 1, _, rfl, rfl, .inl hq0, by rw [em1]; exact atI_nat hvm, _, rfl, _, rfl, p, _, ((m - 1 : Nat) : Int), _, rfl, rfl, .inl hq0, atI_nat hvz, by show 2 ≤ sizeLine; decide, fun t ht => ?_⟩
                have ntp : p ≠ t := ne_of_none hq0 ht
                have ntf : fl ≠ t := ne_of_none hf0 ht
                refine ⟨t, _, rfl, upd_same, rfl, _, _, rfl, _, rfl, _, rfl, p, _, ((m - 1 : Nat) : Int), m - 1, rfl, rfl, by rw [upd_ne ntp]; exact hq0, ixN_n (by omega), _, _, rfl, _, rfl, _, rfl, _, _, rfl, rfl, p, _, ((m - 1 : Nat) : Int) + 1, m - 1 + 1, rfl, rfl, upd_same, by rw [List.length_set]; exact ixN_n (j := m - 1 + 1) (by omega), rfl, ?_⟩
                have hf1 : (upd (upd (upd H6 t (.tup [.int (i : Nat), .int z])) p (.lst ((qs.map V.int).set (m - 1) (.int (i : Nat))))) p (.lst (((qs.map V.int).set (m - 1) (.int (i : Nat))).set (m - 1 + 1) (.int z)))) fl = some (.lst (fs.map fun k : Nat => V.int (k : Int))) := by rw [upd_ne npf, upd_ne npf, upd_ne ntf]; exact hf0
                refine ⟨_, rfl, tyL hf1, _, rfl, fl, _, _, rfl, rfl, hf1, by rw [List.length_map]; exact sz_small (by omega), ?_⟩
                refine ⟨m - 1, by omega, ⟨_, hnx _ ?_ ?_ ?_⟩, by omega, rfl⟩
                · exact ((((hIs.add ht).mut (s12.free hp)).mut (s12.free hp)).mut ((s12.trans s3).free hfl))
                · rw [upd_ne (Ne.symm npf), upd_same, set_ints qs (m - 1) (by omega) hm2 hz]
                · rw [upd_same, List.map_append]
                  rfl
              · have e : m = i := by omega
                subst e
                refine if_f (by simp) ?_
                refine ⟨⟨_, _, rfl⟩, fs, I.s, I.hp, I.hf, I.fa, fun j hj => ?_⟩
                by_cases e : j = m
                · subst e; exact hm
                · exact I.at_ j (by omega)
            · obtain ⟨⟨x, y, rfl⟩, fs, I⟩ := pv
              refine ⟨_, rfl, fl, _, rfl, I.hf, fun t ht => q3 fs t _ (I.s.add ht) (I.s.free ht) upd_same I.fa ?_⟩
              refine XM.row_of_places ((XM.falls_perm _ fs rs I.fa).trans pm) fun i hi => I.at_ i ?_
              rw [XM.walk_len] at hi
              omega
end
end D15
set_option maxRecDepth 100000
set_option maxHeartbeats 4000000

namespace D15
open PySem L2
abbrev s__are_pairs : Stmt := (top 24)
theorem sc__are_pairs : FnScope ["value", "size", "pair"] ["value", "size"] (defScope s__are_pairs) := ⟨rfl, rfl, rfl, by decide +kernel, rfl, by decide +kernel, by decide +kernel⟩
abbrev s__closed : Stmt := (top 25)
theorem sc__closed : FnScope ["size", "pairs", "masks", "e", "f", "middle", "number"] ["size", "pairs"] (defScope s__closed) := ⟨rfl, rfl, rfl, by decide +kernel, rfl, by decide +kernel, by decide +kernel⟩
abbrev s_Order___init__ : Stmt := (inClass (top 23) 0)
theorem sc_Order___init__ : FnScope ["self", "size", "pairs", "masks", "numbers", "e", "f", "number", "mask"] ["self", "size", "pairs"] (defScope s_Order___init__) := ⟨rfl, rfl, rfl, by decide +kernel, rfl, by decide +kernel, by decide +kernel⟩
def Val2 (n : Int) (ps : List (Int × Int)) : Prop := ∀ p ∈ ps, 0 ≤ p.1 ∧ p.1 < n ∧ 0 ≤ p.2 ∧ p.2 < n
def spArePairs : Sp := fun vs H Q _ => ∃ (a : Addr) (xs : List V) (ps : List (Int × Int)) (n : Nat), vs = [.ref a, .int n] ∧ H a = some (.lst xs) ∧ PairsAt H xs ps ∧ Val2 n ps ∧ (∀ p ∈ ps, p.1 ≠ p.2) ∧ ps.length ≤ 4000 ∧ ∀ H', Same H H' → Q (.bl true) H'
def spClosed : Sp := fun vs H Q _ => ∃ (a : Addr) (xs : List V) (ps : List (Int × Int)) (n : Nat), vs = [.int n, .ref a] ∧ H a = some (.lst xs) ∧ PairsAt H xs ps ∧ Val2 n ps ∧ ps.length ≤ 4000 ∧ n ≤ 16 ∧
  ∀ (ms : List Nat) t H', Same H H' → H t = none → H' t = some (.lst (ms.map fun m : Nat => V.int (m : Int))) → ms.length = n → (∀ a b, a < n → (XM.rel ms a b ↔ XM.mids (XM.PR ps) n a b)) → Q (.ref t) H'
def spOrder (CO : Addr) : Sp := fun vs H Q _ => ∃ (o dx a : Addr) (xs : List V) (ps : List (Int × Int)) (n : Nat), vs = [.ref o, .int n, .ref a] ∧ H o = some (.ins CO dx []) ∧ H a = some (.lst xs) ∧ PairsAt H xs ps ∧ Val2 n ps ∧ (∀ p ∈ ps, p.1 ≠ p.2) ∧ ps.length ≤ 4000 ∧ n ≤ 16 ∧
  (∀ k, k < n → ¬ XM.mids (XM.PR ps) n k k) ∧ ∀ qs H', Save o H H' → OrderAt CO H' o n qs → Val2 n qs → qs.length ≤ 4000 → (∀ e f : Nat, ((e : Int), (f : Int)) ∈ qs ↔ e < n ∧ f < n ∧ XM.mids (XM.PR ps) n e f) → Q .non H'
/-- masks as they stand: the list at t, bits of R -/
structure CI (H : Hp) (n : Nat) (t : Addr) (R : Nat → Nat → Prop) (ms : List Nat) (H' : Hp) : Prop where
  s : Same H H'
  ht : H' t = some (.lst (ms.map fun m : Nat => V.int (m : Int)))
  len : ms.length = n
  r : ∀ a b, a < n → (XM.rel ms a b ↔ R a b)
theorem or_bit (x f : Nat) : Builtin.bitOr (x : Int) (1 * 2 ^ ((f : Int)).toNat) = ((x ||| 2 ^ f : Nat) : Int) := by
  have e : (1 * 2 ^ ((f : Int)).toNat : Int) = ((2 ^ f : Nat) : Int) := by
    rw [Int.toNat_natCast, Int.one_mul, Int.natCast_pow]
    rfl
  rw [e, Bits.bitOr_pp (Int.natCast_nonneg _) (Int.natCast_nonneg _), Int.toNat_natCast, Int.toNat_natCast]
theorem or_nat (x y : Nat) : Builtin.bitOr (x : Int) (y : Int) = ((x ||| y : Nat) : Int) := by
  rw [Bits.bitOr_pp (Int.natCast_nonneg _) (Int.natCast_nonneg _), Int.toNat_natCast, Int.toNat_natCast]
theorem shr_bit (x m : Nat) : (Builtin.bitAnd ((x : Int) / 2 ^ ((m : Int)).toNat) 1 != 0) = x.testBit m := by
  rw [PyProof.Rows.bitAnd_m1, Int.toNat_natCast, XM.bit_odd]
theorem nat_at {ms : List Nat} {k : Nat} (h : k < ms.length) : (ms.map fun m : Nat => V.int (m : Int))[k]? = some (.int ((ms.getD k 0 : Nat) : Int)) := by
  rw [List.getElem?_map, List.getD_eq_getElem?_getD, List.getElem?_eq_getElem h]
  rfl
theorem set_nat (ms : List Nat) (k x : Nat) : (ms.map fun m : Nat => V.int (m : Int)).set k (.int (x : Int)) = (ms.set k x).map fun m : Nat => V.int (m : Int) := by rw [List.map_set]
theorem PairsAt.upd {H : Hp} {b : Addr} {u : HO} {xs : List V} {ps : List (Int × Int)} (h : PairsAt H xs ps) (hb : ∀ ys, H b ≠ some (.tup ys)) : PairsAt (upd H b u) xs ps := ⟨h.1, fun i t ht =>
  let ⟨a, e, f, e1, e2, e3⟩ := h.2 i t ht
  ⟨a, e, f, e1, e2, by
    rw [upd_ne (fun z => hb _ (z ▸ e3))]
    exact e3⟩⟩
theorem PairsAt.snoc {H : Hp} {t : Addr} {xs : List V} {ps : List (Int × Int)} {e f : Int} (h : PairsAt H xs ps) (ht : H t = none) : PairsAt (L2.upd H t (.tup [.int e, .int f])) (xs ++ [.ref t]) (ps ++ [(e, f)]) := by
  refine ⟨by rw [List.length_append, List.length_append, h.1]; rfl, fun i y hy => ?_⟩
  by_cases hi : i < xs.length
  · rw [List.getElem?_append_left hi] at hy
    obtain ⟨a, e, f, e1, e2, e3⟩ := (h.same (Same.new ht)).2 i y hy
    exact ⟨a, e, f, e1, by rw [List.getElem?_append_left (by rw [← h.1]; exact hi)]; exact e2, e3⟩
  · rw [List.getElem?_append_right (by omega)] at hy
    have e0 : i - xs.length = 0 := by
      have := (List.getElem?_eq_some_iff.mp hy).1
      rw [List.length_singleton] at this
      omega
    rw [e0] at hy
    refine ⟨t, e, f, (Option.some.inj hy).symm, ?_, upd_same⟩
    rw [List.getElem?_append_right (by rw [← h.1]; omega), ← h.1, e0]
    rfl
/-- the pairs met up to (i, j) -/
structure PQ (n : Nat) (ms : List Nat) (i j : Nat) (qs : List (Int × Int)) : Prop where
  b : ∀ p ∈ qs, ∃ e f : Nat, p = ((e : Int), (f : Int)) ∧ e < n ∧ f < n
  l : qs.length ≤ i * n + j
  m : ∀ e f : Nat, ((e : Int), (f : Int)) ∈ qs ↔ (e < i ∨ (e = i ∧ f < j)) ∧ f < n ∧ XM.rel ms e f
theorem PQ.snoc {n : Nat} {ms : List Nat} {i j : Nat} {qs : List (Int × Int)} (h : PQ n ms i j qs) (hb : XM.rel ms i j) (hi : i < n) (hj : j < n) : PQ n ms i (j + 1) (qs ++ [((i : Int), (j : Int))]) := by
  refine ⟨fun p hp => ?_, by rw [List.length_append]; have := h.l; simp; omega, fun e f => ?_⟩
  · rcases List.mem_append.mp hp with hp | hp
    · exact h.b p hp
    · exact ⟨i, j, List.mem_singleton.mp hp, hi, hj⟩
  · rw [List.mem_append, h.m e f, List.mem_singleton]
    constructor
    · rintro (⟨h1, h2, h3⟩ | z)
      · exact ⟨by omega, h2, h3⟩
      · injection z with z1 z2
        have e1 : e = i := by omega
        have e2 : f = j := by omega
        subst e1 e2
        exact ⟨by omega, hj, hb⟩
    · rintro ⟨h1, h2, h3⟩
      by_cases z : e = i ∧ f = j
      · obtain ⟨rfl, rfl⟩ := z
        exact .inr rfl
      · exact .inl ⟨by omega, h2, h3⟩
theorem PQ.skip {n : Nat} {ms : List Nat} {i j : Nat} {qs : List (Int × Int)} (h : PQ n ms i j qs) (hb : ¬ XM.rel ms i j) : PQ n ms i (j + 1) qs := by
  refine ⟨h.b, by have := h.l; omega, fun e f => ?_⟩
  rw [h.m e f]
  constructor
  · rintro ⟨h1, h2, h3⟩
    exact ⟨by omega, h2, h3⟩
  · rintro ⟨h1, h2, h3⟩
    have z : ¬ (e = i ∧ f = j) := by
      rintro ⟨rfl, rfl⟩
      exact hb h3
    exact ⟨by omega, h2, h3⟩
theorem PQ.next {n : Nat} {ms : List Nat} {i : Nat} {qs : List (Int × Int)} (h : PQ n ms i n qs) : PQ n ms (i + 1) 0 qs := by
  refine ⟨h.b, by have := h.l; rw [Nat.add_mul]; omega, fun e f => ?_⟩
  rw [h.m e f]
  constructor
  · rintro ⟨h1, h2, h3⟩
    exact ⟨by omega, h2, h3⟩
  · rintro ⟨h1, h2, h3⟩
    exact ⟨by omega, h2, h3⟩
theorem if_any {c : Prop} [Decidable c] {A B : Prop} (a : A) (b : B) : if c then A else B := by
  split
  · exact a
  · exact b
section
variable {P : Program} {w : World} {K : PySem.W.Frag} {mg : Str → Option Value} {base : Heap} {CO CR CD : Addr}
theorem ok_are_pairs {f : Addr} {fd : FuncData} (F : Fun K "_are_pairs" "_are_pairs" s__are_pairs f fd) (T : Txt K mg CO) (c_is_list : CalD P w K mg base CX0 1 "is_list" spIsList) (c_is_pair : CalD P w K mg base CX0 3 "is_pair" spIsPair) :
    FnOk P w K mg base CX0 4 f fd ["value", "size"] spArePairs := by
  refine F.ok sc__are_pairs (fun vs H Q E h => ?_) (fun cdv A outer s H vs Q E hr h => ?_)
  · obtain ⟨a, xs, ps, n, rfl, _⟩ := h
    rfl
  · obtain ⟨a, xs, ps, n, rfl, ha, hp, hv, hne, hl, q⟩ := h
    refine ⟨_, (pss_cons (ps_if (pt_not (pt_val (pe_f c_is_list hr (by decide) pass0 rfl (pa_cons (pv 0) pa_nil)))) (pss_one (ps_ret pe_bl)) pss_nil)
      (pss_one (ps_ret (pe_callB c_all0 (by rfl) T.b_all (by decide +kernel) (pa_cons (pe_lc (own := [("pair", 2)]) rfl sc__are_pairs.nd (pi_seq0 (pv 0)) (blkOk_by (N := ["value", "size", "pair"]) (sc := (defScope s__are_pairs)) (by decide +kernel)) (fun _ _ _ _ _ => (pg_name (i := 2) sc__are_pairs.nd rfl (Or.inl rfl))) (fun _ _ _ _ _ => pts_nil) (fun _ _ _ _ _ => (pe_and (pe_f c_is_pair hr (by decide) pass0 rfl (pa_cons (pv 2) (pa_cons (pv 1) pa_nil))) (pe_one (pe_cmpR op_ne (pe_ix ix0 (pv 2) pe_int (fun _ _ => rfl)) (pe_ix ix0 (pv 2) pe_int (fun _ _ => rfl)) (nomark _)))))) pa_nil))))), ?_⟩
    refine ⟨_, rfl, _, rfl, .sq (.inl ha), fun H1 s1 => ⟨_, rfl, iteF ?_⟩⟩
    have hlx : xs.length = ps.length := hp.1
    refine ⟨_, rfl, a, xs, rfl, .inl (s1 _ _ ha), fun J G D hD => ?_⟩
    refine lc_val xs.length (sz_small (by omega)) hD (fun i => List.replicate i (V.bl true)) G.go G.st rfl (fun i H2 x H3 Nx hi s2 y N1 N0 => ?_) (fun H2 s2 hD2 hl => ?_)
    · obtain ⟨rfl, hx⟩ := G.yl _ _ _ _ s2 y
      obtain ⟨t, e, f, rfl, hp0, ht⟩ := (hp.same (s1.trans s2)).2 i x hx
      obtain ⟨b1, b2, b3, b4⟩ := hv _ (mem_at hp0)
      have b5 := hne _ (mem_at hp0)
      refine ⟨rfl, lc_yes ⟨_, rfl, _, rfl, t, .int e, .int f, n, rfl, ht, .int e, .int f, fun H4 s4 => ⟨_, rfl, ?_⟩⟩⟩
      have e1 : (numB (.int e) 0 ((n : Int) - 1) && numB (.int f) 0 ((n : Int) - 1)) = true := by
        simp only [numB, Bool.and_eq_true, decide_eq_true_eq]
        simp only at b1 b2 b3 b4
        omega
      rw [e1]
      have ht4 := s4 _ _ ht
      refine if_t rfl ⟨_, rfl, t, _, 0, _, rfl, rfl, .inr ht4, rfl, _, rfl, t, _, 1, _, rfl, rfl, .inr ht4, rfl, rfl, ?_⟩
      have e2 : (!decide (V.int e = V.int f)) = true := by
        have : ¬ V.int e = V.int f := fun z => b5 (by injection z)
        simp [this]
      rw [e2]
      exact N1 _ _ s4 List.replicate_succ'
    · refine ⟨D, List.replicate xs.length true, rfl, by rw [List.map_replicate]; exact hD2, ?_⟩
      have e : (List.replicate xs.length true).all id = true := by simp
      rw [e]
      exact q _ (s1.trans s2)
theorem ok_closed {f : Addr} {fd : FuncData} (F : Fun K "_closed" "_closed" s__closed f fd) (T : Txt K mg CO) : FnOk P w K mg base CX0 1 f fd ["size", "pairs"] spClosed := by
  refine F.ok sc__closed (fun vs H Q E h => ?_) (fun cdv A outer s H vs Q E hr h => ?_)
  · obtain ⟨a, xs, ps, n, rfl, _⟩ := h
    rfl
  · obtain ⟨a, xs, ps, n, rfl, ha, hp, hv, hl, hn, q⟩ := h
    refine ⟨_, (pss_cons (ps_set (i := 2) sc__closed.nd rfl (Or.inl rfl) (pe_op op_rep (pe_lst (pa_cons pe_int pa_nil)) (pv 0)))
      (pss_cons (ps_for PassesOwn.never rfl (pi_seqA (pv 1)) (pg_tup0 (n := 2) rfl (pgs_cons (pg_name (i := 3) sc__closed.nd rfl (Or.inl rfl)) (pgs_cons (pg_name (i := 4) sc__closed.nd rfl (Or.inl rfl)) pgs_nil))) (pss_one (ps_asg (pe_op op_or (pe_ix ix0 (pv 2) (pv 3) (fun _ _ => rfl)) (pe_op op_shl pe_int (pv 4))) (pg_sub (pv 2) (pv 3) set_list))))
      (pss_cons (ps_for PassesOwn.never rfl (pi_range1 rfl T.b_range (pa_cons (pv 0) pa_nil)) (pg_name (i := 5) sc__closed.nd rfl (Or.inl rfl)) (pss_one (ps_for PassesOwn.never rfl (pi_range1 rfl T.b_range (pa_cons (pv 0) pa_nil)) (pg_name (i := 6) sc__closed.nd rfl (Or.inl rfl)) (pss_one (ps_if (pt_int0 (pe_op op_and (pe_op op_shr (pe_ix ix0 (pv 2) (pv 6) (fun _ _ => rfl)) (pv 5)) pe_int) (by intro _; rfl)) (pss_one (ps_asg (pe_op op_or (pe_ix ix0 (pv 2) (pv 6) (fun _ _ => rfl)) (pe_ix ix0 (pv 2) (pv 5) (fun _ _ => rfl))) (pg_sub (pv 2) (pv 6) set_list))) pss_nil)))))
      (pss_one (ps_ret (pv 2)))))), ?_⟩
    refine ⟨by show 1 ≤ sizeLine; decide, fun z hz => ⟨_, rfl, z, n, _, rfl, rfl, upd_same, by omega, by omega, by show 1 * ((n : Int).toNat) ≤ sizeLine; rw [Int.toNat_natCast]; exact sz_le (by omega), fun t ht => ?_⟩⟩
    have e0 : (List.replicate ((n : Int).toNat) [V.int 0]).flatten = (List.replicate n 0).map fun m : Nat => V.int (m : Int) := by
      rw [Int.toNat_natCast, List.map_replicate]
      exact List.flatten_replicate_singleton
    rw [e0]
    have htn : H t = none := (Same.new hz).free ht
    have sz : Same H (upd (upd H z (.lst [.int 0])) t (.lst ((List.replicate n 0).map fun m : Nat => V.int (m : Int)))) := (Same.new hz).add ht
    refine ⟨_, rfl, a, xs, rfl, .inl (sz _ _ ha), fun J G => ?_⟩
    have hlx : xs.length = ps.length := hp.1
    refine for_it xs.length (fun i σ H' => (∃ x3 x4 x5 x6, σ = [some (.int n), some (.ref a), some (.ref t), x3, x4, x5, x6]) ∧ ∃ ms, CI H n t (XM.PR (ps.take i)) ms H') ⟨⟨_, _, _, _, rfl⟩, List.replicate n 0, sz, upd_same, List.length_replicate, fun a b ha => ?_⟩ (fun i _ H' hi p => ?_) (fun _ H' p => ?_) (fun i v σ H1 H2 hi p y => ?_) (fun σ H1 p => ?_)
    · unfold XM.rel XM.PR
      rw [List.getD_eq_getElem?_getD, List.getElem?_replicate, if_pos ha]
      simp
    · obtain ⟨_, ms, C⟩ := p
      exact G.go i H' ((C.s _ _ ha).trans (sz _ _ ha).symm) hi
    · obtain ⟨_, ms, C⟩ := p
      exact G.st H' ((C.s _ _ ha).trans (sz _ _ ha).symm)
    · obtain ⟨⟨x3, x4, x5, x6, rfl⟩, ms, C⟩ := p
      obtain ⟨rfl, hx⟩ := G.yl i H1 v H2 ((C.s _ _ ha).trans (sz _ _ ha).symm) y
      obtain ⟨t2, e, f, rfl, hp0, ht2⟩ := (hp.same C.s).2 i v hx
      obtain ⟨b1, b2, b3, b4⟩ := hv _ (mem_at hp0)
      simp only at b1 b2 b3 b4
      obtain ⟨e, rfl⟩ := Int.eq_ofNat_of_zero_le b1
      obtain ⟨f, rfl⟩ := Int.eq_ofNat_of_zero_le b3
      have hle : e < ms.length := by have := C.len; omega
      refine ⟨t2, _, rfl, ht2, rfl, _, _, rfl, _, _, rfl, rfl, ?_⟩
      refine ⟨_, rfl, _, rfl, t, _, (e : Nat), _, rfl, rfl, .inl C.ht, atI_nat (nat_at hle), _, rfl, _, _, rfl, rfl, ⟨by omega, by omega, by decide⟩, _, _, rfl, rfl, _, rfl, _, rfl, t, _, (e : Nat), e, rfl, rfl, C.ht, ixN_n (by rw [List.length_map]; exact hle), ?_⟩
      dsimp only
      rw [or_bit, set_nat]
      refine ⟨⟨_, _, _, _, rfl⟩, _, C.s.mut htn, upd_same, by rw [List.length_set]; exact C.len, fun a b ha => ?_⟩
      unfold XM.rel XM.PR
      rw [XM.getD_set _ _ _ _ hle, take_succ hp0, List.mem_append]
      by_cases eq : a = e
      · subst eq
        rw [if_pos rfl, XM.put_bit]
        have := C.r a b ha
        unfold XM.rel XM.PR at this
        rw [this]
        refine or_congr Iff.rfl ?_
        rw [List.mem_singleton]
        exact ⟨fun z => by rw [z], fun z => by injection z with _ z; omega⟩
      · rw [if_neg eq]
        have := C.r a b ha
        unfold XM.rel XM.PR at this
        rw [this]
        exact ⟨.inl, fun z => z.elim id fun z => by
          rw [List.mem_singleton] at z
          injection z with z _
          exact absurd (by omega) eq⟩
    · obtain ⟨⟨x3, x4, x5, x6, rfl⟩, ms, C⟩ := p
      have C0 : CI H n t (XM.mids (XM.PR ps) 0) ms H1 := ⟨C.s, C.ht, C.len, fun a b ha => by
        rw [C.r a b ha]
        unfold XM.mids XM.PR
        rw [hlx, List.take_length]⟩
      refine ⟨_, rfl, _, rfl, by omega, by omega, ?_⟩
      rw [Int.toNat_natCast]
      refine for_it n (fun m σ H' => (∃ x3 x4 x5 x6, σ = [some (.int n), some (.ref a), some (.ref t), x3, x4, x5, x6]) ∧ ∃ ms, CI H n t (XM.mids (XM.PR ps) m) ms H') ⟨⟨_, _, _, _, rfl⟩, ms, C0⟩ (fun i _ _ hi _ => hi) (fun _ _ _ => Nat.le_refl _) (fun m v σ H2 H3 hm p y => ?_) (fun σ H2 p => ?_)
      · obtain ⟨rfl, rfl⟩ := y
        obtain ⟨⟨x3, x4, x5, x6, rfl⟩, ms, C⟩ := p
        rw [Int.zero_add]
        refine ⟨_, rfl, _, rfl, by omega, by omega, ?_⟩
        rw [Int.toNat_natCast]
        refine for_it n (fun k σ H' => (∃ x6, σ = [some (.int n), some (.ref a), some (.ref t), x3, x4, some (.int (m : Nat)), x6]) ∧ ∃ ms', Same H H' ∧ H' t = some (.lst (ms'.map fun m : Nat => V.int (m : Int))) ∧ ms'.length = n ∧ ∀ a, a < n → ms'.getD a 0 = if a < k then XM.mid ms m a else ms.getD a 0)
          ⟨⟨_, rfl⟩, ms, C.s, C.ht, C.len, fun a ha => by rw [if_neg (Nat.not_lt_zero _)]⟩ (fun i _ _ hi _ => hi) (fun _ _ _ => Nat.le_refl _) (fun k v σ H4 H5 hk p y => ?_) (fun σ H4 p => ?_)
        · obtain ⟨rfl, rfl⟩ := y
          obtain ⟨⟨x6, rfl⟩, ms', s4, ht4, hl4, r4⟩ := p
          rw [Int.zero_add]
          have rk : ms'.getD k 0 = ms.getD k 0 := by rw [r4 k hk, if_neg (Nat.lt_irrefl _)]
          have rm : ms'.getD m 0 = ms.getD m 0 := by
            rw [r4 m hm]
            split
            · rw [XM.mid_self]
            · rfl
          refine ⟨_, rfl, _, rfl, t, _, (k : Nat), _, rfl, rfl, .inl ht4, atI_nat (nat_at (by omega)), _, rfl, _, _, rfl, rfl, Int.natCast_nonneg _, _, _, rfl, rfl, _, rfl, ?_⟩
          rw [shr_bit, rk]
          cases hb : (ms.getD k 0).testBit m with
          | true =>
            refine if_t rfl ⟨_, rfl, _, rfl, t, _, (k : Nat), _, rfl, rfl, .inl ht4, atI_nat (nat_at (by omega)), _, rfl, _, rfl, t, _, (m : Nat), _, rfl, rfl, .inl ht4, atI_nat (nat_at (by omega)), _, _, rfl, rfl, _, rfl, _, rfl, t, _, (k : Nat), k, rfl, rfl, ht4, ixN_n (by rw [List.length_map]; omega), ?_⟩
            dsimp only
            rw [or_nat, set_nat]
            refine ⟨⟨_, rfl⟩, _, s4.mut htn, upd_same, by rw [List.length_set]; exact hl4, fun a ha => ?_⟩
            rw [XM.getD_set _ _ _ _ (by omega)]
            by_cases e : a = k
            · subst e
              rw [if_pos rfl, if_pos (by omega), rk, rm]
              unfold XM.mid
              rw [if_pos hb]
            · rw [if_neg e, r4 a ha]
              by_cases h2 : a < k
              · rw [if_pos h2, if_pos (by omega)]
              · rw [if_neg h2, if_neg (by omega)]
          | false =>
            refine if_f (by simp) ⟨⟨_, rfl⟩, ms', s4, ht4, hl4, fun a ha => ?_⟩
            rw [r4 a ha]
            by_cases e : a = k
            · subst e
              rw [if_neg (Nat.lt_irrefl _), if_pos (by omega)]
              unfold XM.mid
              rw [if_neg (by rw [hb]; exact Bool.false_ne_true)]
            · by_cases h2 : a < k
              · rw [if_pos h2, if_pos (by omega)]
              · rw [if_neg h2, if_neg (by omega)]
        · obtain ⟨⟨x6, rfl⟩, ms', s4, ht4, hl4, r4⟩ := p
          refine ⟨⟨_, _, _, _, rfl⟩, ms', s4, ht4, hl4, fun a b ha => ?_⟩
          unfold XM.rel
          rw [r4 a ha, if_pos ha, XM.mid_bit]
          show XM.step (XM.rel ms) m a b ↔ XM.step (XM.mids (XM.PR ps) m) m a b
          unfold XM.step
          rw [C.r a b ha, C.r a m ha, C.r m b hm]
      · obtain ⟨⟨x3, x4, x5, x6, rfl⟩, ms, C⟩ := p
        exact ⟨_, rfl, q ms t _ C.s htn C.ht C.len C.r⟩
theorem ok_order {f : Addr} {fd : FuncData} (F : Fun K "__init__" "Order.__init__" s_Order___init__ f fd) (T : Txt K mg CO) (c_is_number : CalD P w K mg base CX0 2 "is_number" spIsNumber) (c__are_pairs : CalD P w K mg base CX0 4 "_are_pairs" spArePairs)
    (c__closed : CalD P w K mg base CX0 1 "_closed" spClosed) (d_BadOrder : ErD P w K mg base 2 "BadOrder" CR "name") : FnOk P w K mg base (L2.CX P w) 5 f fd ["self", "size", "pairs"] (spOrder CO) := by
  refine F.okX sc_Order___init__ (fun vs H Q E h => ?_) (fun cdv A outer s H vs Q E hr h => ?_)
  · obtain ⟨o, dx, a, xs, ps, n, rfl, _⟩ := h
    rfl
  · obtain ⟨o, dx, a, xs, ps, n, rfl, ho, ha, hp, hv, hne, hl, hn, hac, q⟩ := h
    obtain ⟨tkM, gMOST⟩ := T.g_MOST_NUMBERS
    refine ⟨_, (pss_cons (ps_if (pt_not (pt_val (pe_f c_is_number hr (by decide) pass0 rfl (pa_cons (pv 1) (pa_cons pe_int (pa_cons (pe_glob (v := .int 16) rfl gMOST ⟨_, rfl⟩) pa_nil)))))) (pss_one (ps_raise rfl (takes_of rfl rfl rfl rfl) (pmk_d d_BadOrder hr (by decide) rfl (pa_cons pe_str pa_nil)))) pss_nil)
      (pss_cons (ps_if (pt_not (pt_val (pe_f c__are_pairs hr (by decide) pass0 rfl (pa_cons (pv 2) (pa_cons (pv 1) pa_nil))))) (pss_one (ps_raise rfl (takes_of rfl rfl rfl rfl) (pmk_d d_BadOrder hr (by decide) rfl (pa_cons pe_str pa_nil)))) pss_nil)
      (pss_cons (ps_set (i := 3) sc_Order___init__.nd rfl (Or.inr rfl) (pe_f c__closed hr (by decide) pass0 rfl (pa_cons (pv 1) (pa_cons (pv 2) pa_nil))))
      (pss_cons (ps_if (pt_val (pe_callB c_anyI0 (by rfl) T.b_any (by decide +kernel) (pa_cons (pe_lc (own := [("number", 7), ("mask", 8)]) rfl sc_Order___init__.nd (pi_enum0 rfl T.b_enumerate (pa_cons (pv 3) pa_nil)) (blkOk_by (N := ["self", "size", "pairs", "masks", "numbers", "e", "f", "number", "mask"]) (sc := (defScope s_Order___init__)) (by decide +kernel)) (fun _ _ _ _ _ => (pg_tup0 (n := 2) rfl (pgs_cons (pg_name (i := 7) sc_Order___init__.nd rfl (Or.inl rfl)) (pgs_cons (pg_name (i := 8) sc_Order___init__.nd rfl (Or.inl rfl)) pgs_nil)))) (fun _ _ _ _ _ => pts_nil) (fun _ _ _ _ _ => (pe_op op_and (pe_op op_shr (pv 8) (pv 7)) pe_int))) pa_nil))) (pss_one (ps_raise rfl (takes_of rfl rfl rfl rfl) (pmk_d d_BadOrder hr (by decide) rfl (pa_cons pe_str pa_nil)))) pss_nil)
      (pss_cons (ps_set (i := 4) sc_Order___init__.nd rfl (Or.inr rfl) (pe_callTy cr_range1 (by rfl) T.b_range (by decide +kernel) (pa_cons (pv 1) pa_nil)))
      (pss_cons (ps_fld (pv 0) (pv 1) rfl)
      (pss_cons (ps_fld (pv 0) (pe_callTy c_tup0 (by rfl) T.b_tuple (by decide +kernel) (pa_cons (pe_lc2 (own := [("e", 5), ("f", 6)]) (vs1 := [6]) rfl sc_Order___init__.nd (pi_rngV (pv 4)) (blkOk_by (N := ["self", "size", "pairs", "masks", "numbers", "e", "f", "number", "mask"]) (sc := (defScope s_Order___init__)) (by decide +kernel)) (by decide) (fun _ _ _ _ _ => (pg_name (i := 5) sc_Order___init__.nd rfl (Or.inl rfl))) (fun _ _ _ _ _ => pts_nil) (fun _ _ _ _ _ => (pi_rngV (pv 4))) (fun _ _ _ _ _ => (pg_name (i := 6) sc_Order___init__.nd rfl (Or.inl rfl))) (fun _ _ _ _ _ => (pts_one (pt_int0 (pe_op op_and (pe_op op_shr (pe_ix ix0 (pv 3) (pv 5) (fun _ _ => rfl)) (pv 6)) pe_int) (by intro _; rfl)))) (fun _ _ _ _ _ => (pe_tup (pa_cons (pv 5) (pa_cons (pv 6) pa_nil))))) pa_nil)) rfl)
      (pss_cons (ps_fld (pv 0) (pe_lc (own := [("e", 5)]) rfl sc_Order___init__.nd (pi_rngV (pv 4)) (blkOk_by (N := ["self", "size", "pairs", "masks", "numbers", "e", "f", "number", "mask"]) (sc := (defScope s_Order___init__)) (by decide +kernel)) (fun _ _ _ _ _ => (pg_name (i := 5) sc_Order___init__.nd rfl (Or.inr rfl))) (fun _ _ _ _ _ => pts_nil) (fun _ _ _ _ _ => (pe_callTy c_tup0 (by rfl) T.b_tuple (by decide +kernel) (pa_cons (pe_lc (own := [("f", 6)]) rfl sc_Order___init__.nd (pi_rngV (pv 4)) (blkOk_by (N := ["self", "size", "pairs", "masks", "numbers", "e", "f", "number", "mask"]) (sc := ({ kind := .function, names := [(".0", .local), ("e", .cell), ("tuple", .globalImplicit), ("masks", .cell), ("numbers", .cell)], isGenerator := false, isCoroutine := false, more := [] })) (by decide +kernel)) (fun _ _ _ _ _ => (pg_name (i := 6) sc_Order___init__.nd rfl (Or.inl rfl))) (fun _ _ _ _ _ => (pts_one (pt_int0 (pe_op op_and (pe_op op_shr (pe_ix ix0 (pv 3) (pv 5) (fun _ _ => rfl)) (pv 6)) pe_int) (by intro _; rfl)))) (fun _ _ _ _ _ => (pv 6))) pa_nil)))) rfl)
      (pss_one (ps_fld (pv 0) (pe_lc (own := [("f", 6)]) rfl sc_Order___init__.nd (pi_rngV (pv 4)) (blkOk_by (N := ["self", "size", "pairs", "masks", "numbers", "e", "f", "number", "mask"]) (sc := (defScope s_Order___init__)) (by decide +kernel)) (fun _ _ _ _ _ => (pg_name (i := 6) sc_Order___init__.nd rfl (Or.inr rfl))) (fun _ _ _ _ _ => pts_nil) (fun _ _ _ _ _ => (pe_callTy c_tup0 (by rfl) T.b_tuple (by decide +kernel) (pa_cons (pe_lc (own := [("e", 5)]) rfl sc_Order___init__.nd (pi_rngV (pv 4)) (blkOk_by (N := ["self", "size", "pairs", "masks", "numbers", "e", "f", "number", "mask"]) (sc := ({ kind := .function, names := [(".0", .local), ("f", .cell), ("tuple", .globalImplicit), ("masks", .cell), ("numbers", .cell)], isGenerator := false, isCoroutine := false, more := [] })) (by decide +kernel)) (fun _ _ _ _ _ => (pg_name (i := 5) sc_Order___init__.nd rfl (Or.inl rfl))) (fun _ _ _ _ _ => (pts_one (pt_int0 (pe_op op_and (pe_op op_shr (pe_ix ix0 (pv 3) (pv 5) (fun _ _ => rfl)) (pv 6)) pe_int) (by intro _; rfl)))) (fun _ _ _ _ _ => (pv 5))) pa_nil)))) rfl)))))))))), ?_⟩
    have e1 : numB (.int n) 0 16 = true := by
      simp only [numB, Bool.and_eq_true, decide_eq_true_eq]
      omega
    refine ⟨_, rfl, .int n, 0, 16, rfl, .int _, _, rfl, ?_⟩
    rw [e1]
    refine iteF ⟨_, rfl, _, rfl, a, xs, ps, n, rfl, ha, hp, hv, hne, hl, fun H1 s1 => ⟨_, rfl, iteF ?_⟩⟩
    refine ⟨_, rfl, _, rfl, a, xs, ps, n, rfl, s1 _ _ ha, hp.same s1, hv, hl, hn, fun ms t H2 s2 ht ht2 lm r => ?_⟩
    refine ⟨_, rfl, t, _, rfl, .inl ht2, fun J G D hD => ?_⟩
    refine lc_val n (sz_small (by omega)) hD (fun i => List.replicate i (V.int 0)) (by have := G.go; rw [List.length_map, lm] at this; exact this) (by have := G.st; rw [List.length_map, lm] at this; exact this) rfl (fun i H3 x H4 Nx hi s3 y N1 N0 => ?_) (fun H3 s3 hD3 hl3 => ?_)
    · obtain ⟨tt, x, rfl, hf, rfl, hx⟩ := G.yl _ _ _ _ s3 y
      rw [nat_at (by omega)] at hx
      have hx' := (Option.some.inj hx).symm
      subst hx'
      refine ⟨tt, _, rfl, upd_same, rfl, _, _, rfl, _, _, rfl, rfl, rfl, lc_yes2 ⟨_, rfl, _, rfl, _, _, rfl, rfl, Int.natCast_nonneg _, _, _, rfl, rfl, N1 _ _ (Same.new hf) ?_⟩⟩
      have hb := shr_bit (ms.getD i 0) i
      have hf : (ms.getD i 0).testBit i = false := by
        have h1 := hac i hi
        rw [← r i i hi] at h1
        unfold XM.rel at h1
        simpa using h1
      rw [hf] at hb
      have hz : Builtin.bitAnd ((ms.getD i 0 : Nat) / 2 ^ ((i : Int)).toNat) 1 = 0 := by simpa using hb
      dsimp only
      rw [hz]
      exact List.replicate_succ'
    refine ⟨D, List.replicate n 0, rfl, by rw [List.map_replicate]; exact hD3, _, rfl, if_f (by simp) ?_⟩
    have sH3 : Same H H3 := (s1.trans s2).trans s3
    have ht3 := s3 _ _ ht2
    refine ⟨_, rfl, _, rfl, fun rg hrg => ?_⟩
    have ho3 : upd H3 rg (.rng 0 n) o = some (.ins CO dx []) := Same.new hrg _ _ (sH3 _ _ ho)
    refine ⟨_, rfl, _, rfl, o, CO, dx, _, rfl, ho3, T.cl_O, T.n_size, by decide, ?_⟩
    have en : ((n : Int) - 0).toNat = n := by omega
    have hro : upd (upd H3 rg (.rng 0 n)) o (.ins CO dx (putF "size" (.int n) [])) rg = some (.rng 0 n) := by
      have : rg ≠ o := fun e => by rw [e, sH3 _ _ ho] at hrg; cases hrg
      rw [upd_ne this, upd_same]
    have hto : upd (upd H3 rg (.rng 0 n)) o (.ins CO dx (putF "size" (.int n) [])) t = some (.lst (ms.map fun m : Nat => V.int (m : Int))) := by
      have n1 : t ≠ o := fun e => by rw [e, sH3 _ _ ho] at ht3; cases ht3
      rw [upd_ne n1]
      exact Same.new hrg _ _ ht3
    have hoo : upd (upd H3 rg (.rng 0 n)) o (.ins CO dx (putF "size" (.int n) [])) o = some (.ins CO dx (putF "size" (.int n) [])) := upd_same
    have sv4 : Save o H (upd (upd H3 rg (.rng 0 n)) o (.ins CO dx (putF "size" (.int n) []))) := (sH3.trans (Same.new hrg)).save.upd_self
    generalize upd (upd H3 rg (.rng 0 n)) o (.ins CO dx (putF "size" (.int n) [])) = H4 at *
    refine ⟨_, rfl, rg, 0, n, rfl, hro, ⟨by decide, by decide, by omega, by omega⟩, fun D4 hD4 => ?_⟩
    rw [en]
    refine ⟨fun i m H' => m = n - i ∧ i ≤ n ∧ Same H4 H' ∧ ∃ acc qs, H' D4 = some (.lst acc) ∧ PairsAt H' acc qs ∧ PQ n ms i 0 qs, ⟨n, by omega, Nat.zero_le _, Same.new hD4, [], [], upd_same, ⟨rfl, fun i t h => by cases h⟩, ⟨fun _ h => absurd h List.not_mem_nil, Nat.zero_le _, fun e f => ⟨fun h => absurd h List.not_mem_nil, fun h => by omega⟩⟩⟩, ?_⟩
    rintro i m H5 ⟨rfl, hi, s5, acc, qs, hacc, hpq, pq⟩
    by_cases hlt : i < n
    · refine .inr ⟨hlt, fun H' => i + 1 ≤ n ∧ Same H4 H' ∧ ∃ acc qs, H' D4 = some (.lst acc) ∧ PairsAt H' acc qs ∧ PQ n ms (i + 1) 0 qs, fun H' h => ⟨n - (i + 1), by omega, rfl, h⟩, fun x H' y => ?_⟩
      obtain ⟨rfl, rfl⟩ := y
      refine ⟨rfl, lc_yes2 ⟨_, rfl, rg, 0, n, rfl, s5 _ _ hro, ⟨by decide, by decide, by omega, by omega⟩, ?_⟩⟩
      rw [en]
      refine ⟨fun j k H' => k = n - j ∧ j ≤ n ∧ Same H4 H' ∧ ∃ acc qs, H' D4 = some (.lst acc) ∧ PairsAt H' acc qs ∧ PQ n ms i j qs, ⟨n, by omega, Nat.zero_le _, s5, acc, qs, hacc, hpq, pq⟩, ?_⟩
      rintro j k H6 ⟨rfl, hj, s6, acc, qs, hacc, hpq, pq⟩
      by_cases hlt2 : j < n
      · refine .inr ⟨hlt2, fun H' => j + 1 ≤ n ∧ Same H4 H' ∧ ∃ acc qs, H' D4 = some (.lst acc) ∧ PairsAt H' acc qs ∧ PQ n ms i (j + 1) qs, fun H' h => ⟨n - (j + 1), by omega, rfl, h⟩, fun x H' y => ?_⟩
        obtain ⟨rfl, rfl⟩ := y
        rw [Int.zero_add, Int.zero_add]
        refine ⟨rfl, _, rfl, _, rfl, t, _, (i : Nat), _, rfl, rfl, .inl (s6 _ _ hto), atI_nat (nat_at (by omega)), _, rfl, _, _, rfl, rfl, Int.natCast_nonneg _, _, _, rfl, rfl, _, rfl, ?_⟩
        rw [shr_bit]
        cases hb : (ms.getD i 0).testBit j with
        | true =>
          refine if_t rfl ⟨_, rfl, _, rfl, by show 2 ≤ sizeLine; decide, fun tp htp => ?_⟩
          have ntD : D4 ≠ tp := ne_of_none hacc htp
          have hq2 := hpq.snoc (e := (i : Int)) (f := (j : Int)) htp
          have hbig : acc.length ≤ i * n + j := by rw [hpq.1]; exact pq.l
          have h256 : i * n ≤ 16 * 16 := Nat.mul_le_mul (by omega) (by omega)
          refine ⟨acc, by rw [upd_ne ntD]; exact hacc, sz_small (by omega), hlt2, (s6.add htp).mut hD4, _, _, upd_same, hq2.upd fun ys h => ?_, pq.snoc hb hlt hlt2⟩
          rw [upd_ne ntD, hacc] at h
          cases h
        | false => exact if_f (by simp) ⟨hlt2, s6, acc, qs, hacc, hpq, pq.skip (by unfold XM.rel; rw [hb]; exact Bool.false_ne_true)⟩
      · have e : j = n := by omega
        subst e
        exact .inl ⟨Nat.le_refl _, hlt, s6, acc, qs, hacc, hpq, pq.next⟩
    have e : i = n := by omega
    subst e
    refine .inl ⟨Nat.le_refl _, D4, acc, rfl, hacc, fun tp htp => ?_⟩
    have ho5 : upd H5 tp (.tup acc) o = some (.ins CO dx (putF "size" (.int i) [])) := Same.new htp _ _ (s5 _ _ hoo)
    refine ⟨_, rfl, o, CO, dx, _, rfl, ho5, T.cl_O, T.n_pairs, by show 1 < 1000; decide, ?_⟩
    have hro6 : upd (upd H5 tp (.tup acc)) o (.ins CO dx (putF "pairs" (.ref tp) (putF "size" (.int i) []))) rg = some (.rng 0 i) := by
      have h5 := s5 _ _ hro
      have : rg ≠ o := fun e => by rw [e, hoo] at hro; cases hro
      rw [upd_ne this]
      exact Same.new htp _ _ h5
    have hto6 : upd (upd H5 tp (.tup acc)) o (.ins CO dx (putF "pairs" (.ref tp) (putF "size" (.int i) []))) t = some (.lst (ms.map fun m : Nat => V.int (m : Int))) := by
      have h5 := s5 _ _ hto
      have : t ≠ o := fun e => by rw [e, hoo] at hto; cases hto
      rw [upd_ne this]
      exact Same.new htp _ _ h5
    have hoo6 : upd (upd H5 tp (.tup acc)) o (.ins CO dx (putF "pairs" (.ref tp) (putF "size" (.int i) []))) o = some (.ins CO dx (putF "pairs" (.ref tp) (putF "size" (.int i) []))) := upd_same
    have hpo6 : upd (upd H5 tp (.tup acc)) o (.ins CO dx (putF "pairs" (.ref tp) (putF "size" (.int i) []))) tp = some (.tup acc) := by
      have : tp ≠ o := fun e => by rw [e, s5 _ _ hoo] at htp; cases htp
      rw [upd_ne this, upd_same]
    have hpq6 : PairsAt (upd (upd H5 tp (.tup acc)) o (.ins CO dx (putF "pairs" (.ref tp) (putF "size" (.int i) [])))) acc qs := (hpq.same (Same.new htp)).upd fun ys h => by rw [ho5] at h; cases h
    have sv6 : Save o H (upd (upd H5 tp (.tup acc)) o (.ins CO dx (putF "pairs" (.ref tp) (putF "size" (.int i) [])))) := (sv4.trans (s5.add htp).save).upd_self
    generalize upd (upd H5 tp (.tup acc)) o (.ins CO dx (putF "pairs" (.ref tp) (putF "size" (.int i) []))) = H6 at *
    have nro : rg ≠ o := fun e => by rw [e, hoo6] at hro6; cases hro6
    have nto : t ≠ o := fun e => by rw [e, hoo6] at hto6; cases hto6
    have npo : tp ≠ o := fun e => by rw [e, hoo6] at hpo6; cases hpo6
    have h6r := hro6
    have h6t := hto6
    refine ⟨_, rfl, rg, 0, i, rfl, h6r, ⟨by decide, by decide, by omega, by omega⟩, fun Da hDa => ?_⟩
    rw [en]
    refine lc_go i (sz_small (by omega)) hDa (fun _ _ _ => True) (fun _ _ _ hi => hi) (fun _ _ => Nat.le_refl _) (fun _ _ => trivial) (fun _ _ _ _ _ _ _ p => p) (fun a1 acc1 H1a x1 H2a Nx hi1 hl1 s1a hacc1 p1 y1 N1 N0 => ?_) (fun acc1 H1a s1a hacc1 hl1 p1 => ?_)
    · obtain ⟨rfl, rfl⟩ := y1
      refine ⟨rfl, lc_yes2 ⟨_, rfl, rg, 0, i, rfl, s1a _ _ h6r, ⟨by decide, by decide, by omega, by omega⟩, fun Ea hEa => ?_⟩⟩
      rw [en]
      refine lc_go i (sz_small (by omega)) hEa (fun _ _ _ => True) (fun _ _ _ hi => hi) (fun _ _ => Nat.le_refl _) (fun _ _ => trivial) (fun _ _ _ _ _ _ _ p => p) (fun a2 acc2 H3a x2 H4a Nx2 hi2 hl2 s3a hacc2 p2 y2 M1 M0 => ?_) (fun acc2 H3a s3a hacc2 hl2 p2 => ?_)
      · obtain ⟨rfl, rfl⟩ := y2
        rw [Int.zero_add, Int.zero_add]
        exact ⟨rfl, _, rfl, _, rfl, t, _, (a1 : Nat), _, rfl, rfl, .inl (s3a _ _ (s1a _ _ h6t)), atI_nat (nat_at (by omega)), _, rfl, _, _, rfl, rfl, Int.natCast_nonneg _, _, _, rfl, rfl, _, rfl, if_any ⟨_, rfl, M1 _ _ (Same.refl _) trivial⟩ (M0 _ (Same.refl _) trivial)⟩
      · exact ⟨Ea, acc2, rfl, hacc2, fun z hz => N1 _ _ (s3a.add hz) trivial⟩
    have ho7 := s1a _ _ hoo6
    refine ⟨_, rfl, o, CO, dx, _, rfl, ho7, T.cl_O, T.n__behind, by show 2 < 1000; decide, ?_⟩
    have h7r : upd H1a o (.ins CO dx (putF "_behind" (.ref Da) (putF "pairs" (.ref tp) (putF "size" (.int i) [])))) rg = some (.rng 0 i) := by
      rw [upd_ne nro]
      exact s1a _ _ h6r
    have h7t : upd H1a o (.ins CO dx (putF "_behind" (.ref Da) (putF "pairs" (.ref tp) (putF "size" (.int i) [])))) t = some (.lst (ms.map fun m : Nat => V.int (m : Int))) := by
      rw [upd_ne nto]
      exact s1a _ _ h6t
    have h7p : upd H1a o (.ins CO dx (putF "_behind" (.ref Da) (putF "pairs" (.ref tp) (putF "size" (.int i) [])))) tp = some (.tup acc) := by
      rw [upd_ne npo]
      exact s1a _ _ hpo6
    have h7o : upd H1a o (.ins CO dx (putF "_behind" (.ref Da) (putF "pairs" (.ref tp) (putF "size" (.int i) [])))) o = some (.ins CO dx (putF "_behind" (.ref Da) (putF "pairs" (.ref tp) (putF "size" (.int i) [])))) := upd_same
    have hpq7 : PairsAt (upd H1a o (.ins CO dx (putF "_behind" (.ref Da) (putF "pairs" (.ref tp) (putF "size" (.int i) []))))) acc qs := (hpq6.same s1a).upd fun ys h => by rw [ho7] at h; cases h
    have sv7 : Save o H (upd H1a o (.ins CO dx (putF "_behind" (.ref Da) (putF "pairs" (.ref tp) (putF "size" (.int i) []))))) := (sv6.trans s1a.save).upd_self
    generalize upd H1a o (.ins CO dx (putF "_behind" (.ref Da) (putF "pairs" (.ref tp) (putF "size" (.int i) [])))) = H7 at *
    refine ⟨_, rfl, rg, 0, i, rfl, h7r, ⟨by decide, by decide, by omega, by omega⟩, fun Db hDb => ?_⟩
    rw [en]
    refine lc_go i (sz_small (by omega)) hDb (fun _ _ _ => True) (fun _ _ _ hi => hi) (fun _ _ => Nat.le_refl _) (fun _ _ => trivial) (fun _ _ _ _ _ _ _ p => p) (fun a1 acc1 H1b x1 H2b Nx hi1 hl1 s1b hacc1 p1 y1 N1 N0 => ?_) (fun acc1 H1b s1b hacc1 hl1 p1 => ?_)
    · obtain ⟨rfl, rfl⟩ := y1
      refine ⟨rfl, lc_yes2 ⟨_, rfl, rg, 0, i, rfl, s1b _ _ h7r, ⟨by decide, by decide, by omega, by omega⟩, fun Eb hEb => ?_⟩⟩
      rw [en]
      refine lc_go i (sz_small (by omega)) hEb (fun _ _ _ => True) (fun _ _ _ hi => hi) (fun _ _ => Nat.le_refl _) (fun _ _ => trivial) (fun _ _ _ _ _ _ _ p => p) (fun a2 acc2 H3b x2 H4b Nx2 hi2 hl2 s3b hacc2 p2 y2 M1 M0 => ?_) (fun acc2 H3b s3b hacc2 hl2 p2 => ?_)
      · obtain ⟨rfl, rfl⟩ := y2
        rw [Int.zero_add, Int.zero_add]
        exact ⟨rfl, _, rfl, _, rfl, t, _, (a2 : Nat), _, rfl, rfl, .inl (s3b _ _ (s1b _ _ h7t)), atI_nat (nat_at (by omega)), _, rfl, _, _, rfl, rfl, Int.natCast_nonneg _, _, _, rfl, rfl, _, rfl, if_any ⟨_, rfl, M1 _ _ (Same.refl _) trivial⟩ (M0 _ (Same.refl _) trivial)⟩
      · exact ⟨Eb, acc2, rfl, hacc2, fun z hz => N1 _ _ (s3b.add hz) trivial⟩
    have ho8 := s1b _ _ h7o
    refine ⟨_, rfl, o, CO, dx, _, rfl, ho8, T.cl_O, T.n__ahead, by show 3 < 1000; decide, ?_⟩
    refine q qs _ (sv7.trans s1b.save).upd_self ⟨dx, _, tp, acc, upd_same, rfl, rfl, ?_, ?_⟩ ?_ ?_ ?_
    · rw [upd_ne npo]
      exact s1b _ _ h7p
    · exact (hpq7.same s1b).upd fun ys h => by rw [ho8] at h; cases h
    · intro p hp
      obtain ⟨e, f, rfl, h1, h2⟩ := pq.b p hp
      exact ⟨Int.natCast_nonneg _, by simp only; omega, Int.natCast_nonneg _, by simp only; omega⟩
    · have := pq.l
      have : i * i ≤ 16 * 16 := Nat.mul_le_mul (by omega) (by omega)
      omega
    · intro e f
      rw [pq.m e f]
      constructor
      · rintro ⟨h1, h2, h3⟩
        have he : e < i := by omega
        exact ⟨he, h2, (r e f he).mp h3⟩
      · rintro ⟨h1, h2, h3⟩
        exact ⟨.inl h1, h2, (r e f h1).mpr h3⟩
end
end D15
set_option maxRecDepth 100000
set_option maxHeartbeats 4000000

namespace D15
open PySem L2
abbrev s__law_pool : Stmt := (top 27)
theorem sc__law_pool : FnScope ["script", "pool", "at", "cell", "side", "k", "seed"] ["script"] (defScope s__law_pool) := ⟨rfl, rfl, rfl, by decide +kernel, rfl, by decide +kernel, by decide +kernel⟩
abbrev s__law_next : Stmt := (top 28)
theorem sc__law_next : FnScope ["pool", "many"] ["pool", "many"] (defScope s__law_next) := ⟨rfl, rfl, rfl, by decide +kernel, rfl, by decide +kernel, by decide +kernel⟩
abbrev s__law_subset : Stmt := (top 29)
theorem sc__law_subset : FnScope ["one", "other", "part"] ["one", "other"] (defScope s__law_subset) := ⟨rfl, rfl, rfl, by decide +kernel, rfl, by decide +kernel, by decide +kernel⟩
abbrev s__law_int : Stmt := (top 30)
theorem sc__law_int : FnScope ["value", "due"] ["value", "due"] (defScope s__law_int) := ⟨rfl, rfl, rfl, by decide +kernel, rfl, by decide +kernel, by decide +kernel⟩
def spPool (K : PySem.W.Frag) : Sp := fun vs H Q _ => ∃ (a : Addr) (ns : List Int), vs = [.ref a] ∧ SqL K H a (ns.map V.int) ∧ ns.length ≤ 63 ∧ ∀ p (ms : List Int) H', Same H H' → H p = none → H' p = some (.lst (ms.map V.int)) → Q (.ref p) H'
def spNext : Sp := fun vs H Q _ => ∃ (p : Addr) (ns : List Int) (m : Int), vs = [.ref p, .int m] ∧ H p = some (.lst (ns.map V.int)) ∧ 0 < m ∧ ∀ k (ms : List Int) H', 0 ≤ k → k < m → Save p H H' → (∀ b, H' b = none → H b = none) → H' p = some (.lst (ms.map V.int)) → Q (.int k) H'
def spSubset : Sp := fun vs H Q _ => ∃ (a b : Addr) (xs ys : List Int), vs = [.ref a, .ref b] ∧ L2.Seq H a (xs.map V.int) ∧ L2.Seq H b (ys.map V.int) ∧ Q (.bl (xs.all fun x => decide (x ∈ ys))) H
def spLInt : Sp := fun vs H Q _ => ∃ k d, vs = [.int k, .int d] ∧ Q (.bl (decide (k = d))) H
section
variable {P : Program} {w : World} {K : PySem.W.Frag} {mg : Str → Option Value} {base : Heap} {CO CR CD : Addr}
theorem _root_.L2.SqL.same {H H' : Hp} {a : Addr} {xs : List V} (e : Same H H') (h : SqL K H a xs) : SqL K H' a xs := by
  rcases h with (h | ⟨o, h⟩) | h
  · exact .inl (.inl (e _ _ h))
  · exact .inl (.inr ⟨o, e _ _ h⟩)
  · exact .inr h
theorem ok_law_next {f : Addr} {fd : FuncData} (F : Fun K "_law_next" "_law_next" s__law_next f fd) (T : Txt K mg CO) : FnOk P w K mg base CX0 1 f fd ["pool", "many"] spNext := by
  refine F.ok sc__law_next (fun vs H Q E h => ?_) (fun cdv A outer s H vs Q E hr h => ?_)
  · obtain ⟨p, ns, m, rfl, _⟩ := h
    rfl
  · obtain ⟨p, ns, m, rfl, hp, hm, q⟩ := h
    refine ⟨_, (pss_cons (ps_if (pt_cmpR op_eq (pe_callB c_len0 (by rfl) T.b_len (by decide +kernel) (pa_cons (pv 0) pa_nil)) pe_int (nomark _)) (pss_one (ps_ret pe_int)) pss_nil)
      (pss_one (ps_ret (pe_op op_mod (pe_callTy call_int1 (by rfl) T.b_int (by decide +kernel) (pa_cons (pe_bm0 PySem.F.plainAttrs_list PySem.F.slot_list_pop PySem.F.type_list_pop mt_pop (pv 0)) pa_nil)) (pv 1))))), ?_⟩
    refine ⟨_, rfl, p, _, rfl, .inl hp, rfl, _, rfl, ?_⟩
    rcases List.eq_nil_or_concat ns with e | ⟨l, z, e⟩
    · subst e
      exact if_t rfl (q 0 [] _ (by omega) hm Save.refl (fun _ h => h) hp)
    · rw [List.concat_eq_append] at e
      subst e
      have hne : ¬ (decide (V.int ((((l ++ [z]).map V.int).length : Nat) : Int) = V.int 0) = true) := fun h => by
        have h2 := of_decide_eq_true h
        injection h2 with h2
        rw [List.length_map, List.length_append, List.length_singleton] at h2
        omega
      refine if_f hne ?_
      refine ⟨_, rfl, tyL hp, p, _, .int z, rfl, rfl, hp, by simp, .inl ⟨z, rfl, ?_⟩⟩
      refine ⟨_, rfl, _, _, rfl, rfl, hm, q _ l _ (Int.emod_nonneg _ (by omega)) (Int.emod_lt_of_pos _ hm) Save.refl.upd_self (fun b h => ?_) ?_⟩
      · by_cases e : b = p
        · subst e
          rw [upd_same] at h
          cases h
        · rw [upd_ne e] at h
          exact h
      · rw [upd_same, List.map_append]
        simp
theorem ok_law_subset {f : Addr} {fd : FuncData} (F : Fun K "_law_subset" "_law_subset" s__law_subset f fd) (T : Txt K mg CO) : FnOk P w K mg base CX0 1 f fd ["one", "other"] spSubset := by
  refine F.ok sc__law_subset (fun vs H Q E h => ?_) (fun cdv A outer s H vs Q E hr h => ?_)
  · obtain ⟨a, b, xs, ys, rfl, _⟩ := h
    rfl
  · obtain ⟨a, b, xs, ys, rfl, ha, hb, q⟩ := h
    refine ⟨_, (pss_cons (ps_for PassesOwn.never rfl (pi_seqA (pv 0)) (pg_name (i := 2) sc__law_subset.nd rfl (Or.inl rfl)) (pss_one (ps_if (pt_cmpR op_niI (pv 2) (pv 1) (by first | rfl | with_unfolding_all rfl)) (pss_one (ps_ret pe_bl)) pss_nil)))
      (pss_one (ps_ret pe_bl))), ?_⟩
    refine ⟨_, rfl, a, _, rfl, ha, fun J G => ?_⟩
    refine for_it (xs.map V.int).length (fun i σ H' => H' = H ∧ (∃ x, σ = [some (.ref a), some (.ref b), x]) ∧ ∀ j x, j < i → xs[j]? = some x → x ∈ ys) ⟨rfl, ⟨_, rfl⟩, fun j x h => absurd h (Nat.not_lt_zero _)⟩ (fun i σ H' hi p => G.go i H' (by rw [p.1]) hi) (fun σ H' p => G.st H' (by rw [p.1])) (fun i v σ H1 H2 hi p y => ?_) (fun σ H1 p => ?_)
    · obtain ⟨rfl, ⟨x, rfl⟩, h⟩ := p
      obtain ⟨rfl, hx⟩ := G.yl i _ v _ rfl y
      obtain ⟨z, hz, rfl⟩ := ints_at hx
      refine ⟨_, rfl, _, rfl, b, z, ys, rfl, rfl, hb, _, rfl, ?_⟩
      by_cases hm : z ∈ ys
      · refine if_f (by simp [hm]) ⟨rfl, ⟨_, rfl⟩, fun j x hj hjx => ?_⟩
        by_cases e : j = i
        · subst e
          rw [hz] at hjx
          cases hjx
          exact hm
        · exact h j x (by omega) hjx
      · refine if_t (by simp [hm]) ?_
        have e : (xs.all fun x => decide (x ∈ ys)) = false := by
          rw [List.all_eq_false]
          exact ⟨z, mem_at hz, by simp [hm]⟩
        rw [e] at q
        exact q
    · obtain ⟨rfl, ⟨x, rfl⟩, h⟩ := p
      have e : (xs.all fun x => decide (x ∈ ys)) = true := by
        rw [List.all_eq_true]
        intro x hx
        obtain ⟨j, hj⟩ := List.mem_iff_getElem?.mp hx
        have hl := (List.getElem?_eq_some_iff.mp hj).1
        exact decide_eq_true (h j x (by rw [List.length_map]; exact hl) hj)
      rw [e] at q
      exact q
theorem ok_law_int {f : Addr} {fd : FuncData} (F : Fun K "_law_int" "_law_int" s__law_int f fd) (T : Txt K mg CO) : FnOk P w K mg base CX0 1 f fd ["value", "due"] spLInt := by
  refine F.ok sc__law_int (fun vs H Q E h => ?_) (fun cdv A outer s H vs Q E hr h => ?_)
  · obtain ⟨k, d, rfl, _⟩ := h
    rfl
  · obtain ⟨k, d, rfl, q⟩ := h
    refine ⟨_, (pss_one (ps_ret (pe_and (pe_callB c_isi0 (by rfl) T.b_isinstance (by decide +kernel) (pa_cons (pv 0) (pa_cons (pe_bltn (v := .ty "int") (by rfl) T.b_int (by decide +kernel) rfl) pa_nil))) (pe_and (pe_not (pe_callB c_isi0 (by rfl) T.b_isinstance (by decide +kernel) (pa_cons (pv 0) (pa_cons (pe_bltn (v := .ty "bool") (by rfl) T.b_bool (by decide +kernel) rfl) pa_nil)))) (pe_one (pe_cmpR op_eq (pv 0) (pv 1) (nomark _))))))), ?_⟩
    refine ⟨_, rfl, _, .int k, .inl ⟨rfl, _, rfl, ?_⟩⟩
    refine if_t rfl ⟨_, rfl, _, .int k, .inr ⟨rfl, _, rfl, _, rfl, ?_⟩⟩
    refine if_t rfl ⟨_, rfl, _, rfl, rfl, ?_⟩
    have e : decide (V.int k = V.int d) = decide (k = d) := by simp
    rw [e]
    exact q
theorem ok_law_pool {f : Addr} {fd : FuncData} (F : Fun K "_law_pool" "_law_pool" s__law_pool f fd) (T : Txt K mg CO) : FnOk P w K mg base CX0 1 f fd ["script"] (spPool K) := by
  refine F.ok sc__law_pool (fun vs H Q E h => ?_) (fun cdv A outer s H vs Q E hr h => ?_)
  · obtain ⟨a, ns, rfl, _⟩ := h
    rfl
  · obtain ⟨a, ns, rfl, ha, hl, q⟩ := h
    refine ⟨_, (pss_cons (ps_set (i := 1) sc__law_pool.nd rfl (Or.inl rfl) (pe_lst pa_nil))
      (pss_cons (ps_for PassesOwn.never rfl (pi_range1 rfl T.b_range (pa_cons (pe_callB (call_min2 rfl) (by rfl) T.b_min (by decide +kernel) (pa_cons (pe_callB call_len_seq (by rfl) T.b_len (by decide +kernel) (pa_cons (pv 0) pa_nil)) (pa_cons pe_int pa_nil))) pa_nil)) (pg_name (i := 2) sc__law_pool.nd rfl (Or.inl rfl)) (pss_cons (ps_set (i := 3) sc__law_pool.nd rfl (Or.inl rfl) (pe_callTy call_int1 (by rfl) T.b_int (by decide +kernel) (pa_cons (pe_ix ix_list (pv 0) (pv 2) (fun _ _ => rfl)) pa_nil)))
      (pss_cons (ps_set (i := 4) sc__law_pool.nd rfl (Or.inl rfl) pe_int)
      (pss_cons (ps_if (pt_cmpR op_lt (pv 3) pe_int (nomark _)) (pss_cons (ps_set (i := 4) sc__law_pool.nd rfl (Or.inl rfl) pe_int)
      (pss_one (ps_set (i := 3) sc__law_pool.nd rfl (Or.inl rfl) (pe_op op_sub pe_int (pv 3))))) pss_nil)
      (pss_one (ps_if (pt_cmpR op_ge (pv 3) (pe_op op_pow pe_int pe_int) (nomark _)) (pss_one (ps_for PassesOwn.never rfl (pi_range1 rfl T.b_range (pa_cons pe_int pa_nil)) (pg_name (i := 5) sc__law_pool.nd rfl (Or.inl rfl)) (pss_one (ps_if (pt_cmpR op_gt (pv 3) pe_int (nomark _)) (pss_cons (ps_expr (pe_bm PySem.F.plainAttrs_list PySem.F.slot_list_append PySem.F.type_list_append mt_append (pv 1) (pa_cons (pe_op op_mod (pe_callTy call_int1 (by rfl) T.b_int (by decide +kernel) (pa_cons (pv 3) pa_nil)) pe_int) pa_nil)))
      (pss_one (ps_set (i := 3) sc__law_pool.nd rfl (Or.inl rfl) (pe_op op_fdiv (pv 3) pe_int)))) pss_nil)))) (pss_cons (ps_set (i := 6) sc__law_pool.nd rfl (Or.inl rfl) (pe_op op_mod (pe_callTy call_int1 (by rfl) T.b_int (by decide +kernel) (pa_cons (pe_op op_add (pe_op op_add (pe_op op_add (pe_op op_mul (pv 3) pe_int) (pe_op op_mul (pv 2) pe_int)) (pv 4)) pe_int) pa_nil)) pe_int))
      (pss_one (ps_for PassesOwn.never rfl (pi_range1 rfl T.b_range (pa_cons pe_int pa_nil)) (pg_name (i := 5) sc__law_pool.nd rfl (Or.inl rfl)) (pss_cons (ps_set (i := 6) sc__law_pool.nd rfl (Or.inl rfl) (pe_op op_mod (pe_callTy call_int1 (by rfl) T.b_int (by decide +kernel) (pa_cons (pe_op op_add (pe_op op_add (pe_op op_add (pe_op op_mul (pv 6) (pv 6)) (pe_op op_mul pe_int (pv 5))) (pv 2)) pe_int) pa_nil)) pe_int))
      (pss_one (ps_expr (pe_bm PySem.F.plainAttrs_list PySem.F.slot_list_append PySem.F.type_list_append mt_append (pv 1) (pa_cons (pe_op op_mod (pe_callTy call_int1 (by rfl) T.b_int (by decide +kernel) (pa_cons (pe_op op_fdiv (pv 6) pe_int) pa_nil)) pe_int) pa_nil))))))))))))))
      (pss_cons (ps_expr (pe_bm0 PySem.F.plainAttrs_list PySem.F.slot_list_reverse PySem.F.type_list_reverse mt_reverse (pv 1)))
      (pss_one (ps_ret (pv 1)))))), ?_⟩
    refine ⟨by show 0 ≤ sizeLine; decide, fun p hp => ?_⟩
    have sp := Same.new (o := .lst []) hp
    refine ⟨_, rfl, a, _, rfl, .inl (SqL.same sp ha), _, _, rfl, _, rfl, ?_, ?_, ?_⟩
    · split <;> omega
    · split
      · decide
      · rw [List.length_map]; omega
    generalize hn0 : (if (63 : Int) < ((ns.map V.int).length : Nat) then (63 : Int) else ((ns.map V.int).length : Nat)).toNat = n0
    have hn1 : n0 ≤ ns.length ∧ n0 ≤ 63 := by
      rw [← hn0, List.length_map]
      split <;> omega
    refine for_it n0 (fun i σ H' => (∃ x2 x3 x4 x5 x6, σ = [some (.ref a), some (.ref p), x2, x3, x4, x5, x6]) ∧ Same H H' ∧ ∃ ms : List Int, H' p = some (.lst (ms.map V.int)) ∧ ms.length ≤ 40 * i) ⟨⟨_, _, _, _, _, rfl⟩, sp, [], upd_same, Nat.zero_le _⟩ (fun i _ _ hi _ => hi) (fun _ _ _ => Nat.le_refl _) (fun i v σ H1 H2 hi pv y => ?_) (fun σ H1 pv => ?_)
    · obtain ⟨rfl, rfl⟩ := y
      obtain ⟨⟨x2, x3, x4, x5, x6, rfl⟩, s1, ms, h1, hm⟩ := pv
      rw [Int.zero_add]
      have hx : (ns.map V.int)[i]? = some (.int (ns[i]'(by omega))) := by rw [List.getElem?_map, List.getElem?_eq_getElem (by omega)]; rfl
      refine ⟨_, rfl, _, rfl, a, _, (i : Nat), _, rfl, rfl, SqL.same s1 ha, atI_nat hx, .inl ⟨_, rfl, ?_⟩⟩
      generalize ns[i]'(by omega) = c
      refine ⟨_, rfl, _, _, rfl, rfl, _, rfl, if_any ⟨_, rfl, _, _, rfl, rfl, ?_⟩ ?_⟩
      · refine ⟨_, rfl, _, _, rfl, rfl, ⟨by decide, by decide, by decide⟩, _, _, rfl, rfl, _, rfl, if_any ?_ ?_⟩
        · refine ⟨40, rfl, by decide, by decide, for_it 40 (fun k σ H' => (∃ c k' sd s', σ = [some (.ref a), some (.ref p), some (.int (i : Nat)), some (.int c), s', k', sd]) ∧ Same H H' ∧ ∃ ms : List Int, H' p = some (.lst (ms.map V.int)) ∧ ms.length ≤ 40 * i + k) ⟨⟨_, _, _, _, rfl⟩, s1, ms, h1, hm⟩ (fun _ _ _ hi _ => hi) (fun _ _ _ => Nat.le_refl _) (fun k v σ H3 H4 hk pv y => ?_) (fun σ H3 pv => ?_)⟩
          · obtain ⟨rfl, rfl⟩ := y
            obtain ⟨⟨c, k', sd, s', rfl⟩, s3, ms, h3, hm⟩ := pv
            refine ⟨_, rfl, _, _, rfl, rfl, _, rfl, if_any ?_ ?_⟩
            · refine ⟨_, rfl, tyL h3, _, rfl, .inl ⟨_, rfl, _, _, rfl, rfl, (by exact (by decide : (0 : Int) < 30)), p, _, _, rfl, rfl, h3, by rw [List.length_map]; exact sz_small (by omega), _, rfl, _, _, rfl, rfl, ⟨by decide, by decide⟩, ?_⟩⟩
              exact ⟨⟨_, _, _, _, rfl⟩, s3.mut hp, ms ++ [c % 30], by rw [upd_same, List.map_append]; rfl, by rw [List.length_append, List.length_singleton]; omega⟩
            · exact ⟨⟨_, _, _, _, rfl⟩, s3, ms, h3, by omega⟩
          · obtain ⟨⟨c, k', sd, s', rfl⟩, s3, ms, h3, hm⟩ := pv
            exact ⟨⟨_, _, _, _, _, rfl⟩, s3, ms, h3, by omega⟩
        · refine ⟨_, rfl, _, _, rfl, rfl, .inr ⟨by decide, by decide⟩, _, rfl, _, _, rfl, rfl, .inr ⟨by decide, by decide⟩, _, _, rfl, rfl, _, rfl, _, _, rfl, rfl, _, _, rfl, rfl, .inl ⟨_, rfl, _, _, rfl, rfl, (by exact (by decide : (0 : Int) < 2147483629)), ?_⟩⟩
          refine ⟨6, rfl, by decide, by decide, for_it 6 (fun k σ H' => (∃ x3 x4 x5 sd, σ = [some (.ref a), some (.ref p), some (.int (i : Nat)), x3, x4, x5, some (.int sd)] ∧ 0 ≤ sd ∧ sd < 2147483648) ∧ Same H H' ∧ ∃ ms : List Int, H' p = some (.lst (ms.map V.int)) ∧ ms.length ≤ 40 * i + k)
            ⟨⟨_, _, _, _, rfl, Int.emod_nonneg _ (by decide), Int.lt_of_lt_of_le (Int.emod_lt_of_pos _ (by decide)) (by decide)⟩, s1, ms, h1, hm⟩ (fun _ _ _ hi _ => hi) (fun _ _ _ => Nat.le_refl _) (fun k v σ H3 H4 hk pv y => ?_) (fun σ H3 pv => ?_)⟩
          · obtain ⟨rfl, rfl⟩ := y
            obtain ⟨⟨x3, x4, x5, sd, rfl, b1, b2⟩, s3, ms, h3, hm⟩ := pv
            refine ⟨_, rfl, _, rfl, _, _, rfl, rfl, .inl ⟨by omega, by omega⟩, _, rfl, _, _, rfl, rfl, .inl ⟨by decide, by decide⟩, _, _, rfl, rfl, _, rfl, _, _, rfl, rfl, _, _, rfl, rfl, .inl ⟨_, rfl, _, _, rfl, rfl, (by exact (by decide : (0 : Int) < 2147483587)), ?_⟩⟩
            refine ⟨_, rfl, tyL h3, _, rfl, _, _, rfl, rfl, ⟨by decide, by decide⟩, .inl ⟨_, rfl, _, _, rfl, rfl, (by exact (by decide : (0 : Int) < 30030)), p, _, _, rfl, rfl, h3, by rw [List.length_map]; exact sz_small (by omega), ?_⟩⟩
            exact ⟨⟨_, _, _, _, rfl, Int.emod_nonneg _ (by decide), Int.lt_of_lt_of_le (Int.emod_lt_of_pos _ (by decide)) (by decide)⟩, s3.mut hp, ms ++ [_], by rw [upd_same, List.map_append]; rfl, by rw [List.length_append, List.length_singleton]; omega⟩
          · obtain ⟨⟨x3, x4, x5, sd, rfl, b1, b2⟩, s3, ms, h3, hm⟩ := pv
            exact ⟨⟨_, _, _, _, _, rfl⟩, s3, ms, h3, by omega⟩
      · refine ⟨_, rfl, _, _, rfl, rfl, ⟨by decide, by decide, by decide⟩, _, _, rfl, rfl, _, rfl, if_any ?_ ?_⟩
        · refine ⟨40, rfl, by decide, by decide, for_it 40 (fun k σ H' => (∃ c k' sd s', σ = [some (.ref a), some (.ref p), some (.int (i : Nat)), some (.int c), s', k', sd]) ∧ Same H H' ∧ ∃ ms : List Int, H' p = some (.lst (ms.map V.int)) ∧ ms.length ≤ 40 * i + k) ⟨⟨_, _, _, _, rfl⟩, s1, ms, h1, hm⟩ (fun _ _ _ hi _ => hi) (fun _ _ _ => Nat.le_refl _) (fun k v σ H3 H4 hk pv y => ?_) (fun σ H3 pv => ?_)⟩
          · obtain ⟨rfl, rfl⟩ := y
            obtain ⟨⟨c, k', sd, s', rfl⟩, s3, ms, h3, hm⟩ := pv
            refine ⟨_, rfl, _, _, rfl, rfl, _, rfl, if_any ?_ ?_⟩
            · refine ⟨_, rfl, tyL h3, _, rfl, .inl ⟨_, rfl, _, _, rfl, rfl, (by exact (by decide : (0 : Int) < 30)), p, _, _, rfl, rfl, h3, by rw [List.length_map]; exact sz_small (by omega), _, rfl, _, _, rfl, rfl, ⟨by decide, by decide⟩, ?_⟩⟩
              exact ⟨⟨_, _, _, _, rfl⟩, s3.mut hp, ms ++ [c % 30], by rw [upd_same, List.map_append]; rfl, by rw [List.length_append, List.length_singleton]; omega⟩
            · exact ⟨⟨_, _, _, _, rfl⟩, s3, ms, h3, by omega⟩
          · obtain ⟨⟨c, k', sd, s', rfl⟩, s3, ms, h3, hm⟩ := pv
            exact ⟨⟨_, _, _, _, _, rfl⟩, s3, ms, h3, by omega⟩
        · refine ⟨_, rfl, _, _, rfl, rfl, .inr ⟨by decide, by decide⟩, _, rfl, _, _, rfl, rfl, .inr ⟨by decide, by decide⟩, _, _, rfl, rfl, _, rfl, _, _, rfl, rfl, _, _, rfl, rfl, .inl ⟨_, rfl, _, _, rfl, rfl, (by exact (by decide : (0 : Int) < 2147483629)), ?_⟩⟩
          refine ⟨6, rfl, by decide, by decide, for_it 6 (fun k σ H' => (∃ x3 x4 x5 sd, σ = [some (.ref a), some (.ref p), some (.int (i : Nat)), x3, x4, x5, some (.int sd)] ∧ 0 ≤ sd ∧ sd < 2147483648) ∧ Same H H' ∧ ∃ ms : List Int, H' p = some (.lst (ms.map V.int)) ∧ ms.length ≤ 40 * i + k)
            ⟨⟨_, _, _, _, rfl, Int.emod_nonneg _ (by decide), Int.lt_of_lt_of_le (Int.emod_lt_of_pos _ (by decide)) (by decide)⟩, s1, ms, h1, hm⟩ (fun _ _ _ hi _ => hi) (fun _ _ _ => Nat.le_refl _) (fun k v σ H3 H4 hk pv y => ?_) (fun σ H3 pv => ?_)⟩
          · obtain ⟨rfl, rfl⟩ := y
            obtain ⟨⟨x3, x4, x5, sd, rfl, b1, b2⟩, s3, ms, h3, hm⟩ := pv
            refine ⟨_, rfl, _, rfl, _, _, rfl, rfl, .inl ⟨by omega, by omega⟩, _, rfl, _, _, rfl, rfl, .inl ⟨by decide, by decide⟩, _, _, rfl, rfl, _, rfl, _, _, rfl, rfl, _, _, rfl, rfl, .inl ⟨_, rfl, _, _, rfl, rfl, (by exact (by decide : (0 : Int) < 2147483587)), ?_⟩⟩
            refine ⟨_, rfl, tyL h3, _, rfl, _, _, rfl, rfl, ⟨by decide, by decide⟩, .inl ⟨_, rfl, _, _, rfl, rfl, (by exact (by decide : (0 : Int) < 30030)), p, _, _, rfl, rfl, h3, by rw [List.length_map]; exact sz_small (by omega), ?_⟩⟩
            exact ⟨⟨_, _, _, _, rfl, Int.emod_nonneg _ (by decide), Int.lt_of_lt_of_le (Int.emod_lt_of_pos _ (by decide)) (by decide)⟩, s3.mut hp, ms ++ [_], by rw [upd_same, List.map_append]; rfl, by rw [List.length_append, List.length_singleton]; omega⟩
          · obtain ⟨⟨x3, x4, x5, sd, rfl, b1, b2⟩, s3, ms, h3, hm⟩ := pv
            exact ⟨⟨_, _, _, _, _, rfl⟩, s3, ms, h3, by omega⟩
    · obtain ⟨⟨x2, x3, x4, x5, x6, rfl⟩, s1, ms, h1, hm⟩ := pv
      refine ⟨_, rfl, tyL h1, p, _, rfl, rfl, h1, _, rfl, q p ms.reverse _ (s1.mut hp) hp ?_⟩
      rw [upd_same, List.map_reverse]
end
end D15
set_option maxRecDepth 100000
set_option maxHeartbeats 4000000

namespace D15
open PySem L2
abbrev s__law_aheads : Stmt := (top 31)
theorem sc__law_aheads : FnScope ["size", "pairs", "e", "rows", "turn", "f", "row", "one"] ["size", "pairs"] (defScope s__law_aheads) := ⟨rfl, rfl, rfl, by decide +kernel, rfl, by decide +kernel, by decide +kernel⟩
abbrev s__law_ready : Stmt := (top 32)
theorem sc__law_ready : FnScope ["aheads", "done", "e"] ["aheads", "done"] (defScope s__law_ready) := ⟨rfl, rfl, rfl, by decide +kernel, rfl, by decide +kernel, by decide +kernel⟩
abbrev s__law_row : Stmt := (top 33)
theorem sc__law_row : FnScope ["pool", "aheads", "last", "row", "turn", "ready", "at"] ["pool", "aheads", "last"] (defScope s__law_row) := ⟨rfl, rfl, rfl, by decide +kernel, rfl, by decide +kernel, by decide +kernel⟩
abbrev s__law_unlike : Stmt := (top 34)
theorem sc__law_unlike : FnScope ["row", "other", "many", "at", "e"] ["row", "other"] (defScope s__law_unlike) := ⟨rfl, rfl, rfl, by decide +kernel, rfl, by decide +kernel, by decide +kernel⟩
theorem nodup_le {l : List Int} {n : Nat} (nd : l.Nodup) (hb : ∀ x ∈ l, 0 ≤ x ∧ x < n) : l.length ≤ n := by
  refine Nat.le_of_not_lt fun h => ?_
  have p := perm_of_nodup_sub l ((List.range n).map fun i : Nat => (i : Int)) nd (fun j hj => by
    obtain ⟨b1, b2⟩ := hb j hj
    exact List.mem_map.mpr ⟨j.toNat, List.mem_range.mpr (by omega), by omega⟩) (by simp; omega)
  have := p.length_eq
  simp at this
  omega
/-- the lists of what stands ahead, all but p theirs -/
structure AhAt (p : Addr) (H : Hp) (g : Addr) (as : List Addr) (A : Nat → List Int) (n : Nat) : Prop where
  hg : H g = some (.lst (as.map V.ref))
  len : as.length = n
  ng : g ≠ p
  na : ∀ a ∈ as, a ≠ p
  at_ : ∀ k a, as[k]? = some a → H a = some (.lst ((A k).map V.int))
theorem AhAt.save {p g : Addr} {H H' : Hp} {as : List Addr} {A : Nat → List Int} {n : Nat} (h : AhAt p H g as A n) (s : Save p H H') : AhAt p H' g as A n := ⟨s _ _ h.ng h.hg, h.len, h.ng, h.na, fun k a e => s _ _ (h.na a (mem_at e)) (h.at_ k a e)⟩
theorem AhAt.get {p g : Addr} {H : Hp} {as : List Addr} {A : Nat → List Int} {n k : Nat} (h : AhAt p H g as A n) (hk : k < n) : ∃ a, as[k]? = some a ∧ H a = some (.lst ((A k).map V.int)) := by
  have e : as[k]? = some (as[k]'(by have := h.len; omega)) := List.getElem?_eq_getElem _
  exact ⟨_, e, h.at_ k _ e⟩
theorem refs_at {as : List Addr} {k : Nat} {a : Addr} (h : as[k]? = some a) : (as.map V.ref)[k]? = some (.ref a) := by rw [List.getElem?_map, h]; rfl
/-- may come next -/
def okR (A : Nat → List Int) (ds : List Int) (e : Nat) : Bool := !decide ((e : Int) ∈ ds) && (A e).all fun x => decide (x ∈ ds)
def readyL (A : Nat → List Int) (n : Nat) (ds : List Int) : List Int := ((List.range n).filter (okR A ds)).map fun i : Nat => (i : Int)
def spReady : Sp := fun vs H Q _ => ∃ (p g d : Addr) (as : List Addr) (A : Nat → List Int) (n : Nat) (ds : List Int), vs = [.ref g, .ref d] ∧ AhAt p H g as A n ∧ H d = some (.lst (ds.map V.int)) ∧ n ≤ 100 ∧ ∀ r H', Same H H' → H r = none → H' r = some (.lst ((readyL A n ds).map V.int)) → Q (.ref r) H'
/-- every one behind all that is ahead of it -/
def Resp (A : Nat → List Int) (rs : List Int) : Prop := ∀ j f, rs[j]? = some f → ∀ x ∈ A f.toNat, x ∈ rs.take j
def spLRow : Sp := fun vs H Q _ => ∃ (p g : Addr) (last : Bool) (as : List Addr) (A : Nat → List Int) (n : Nat) (ns : List Int), vs = [.ref p, .ref g, .bl last] ∧ AhAt p H g as A n ∧ H p = some (.lst (ns.map V.int)) ∧ n ≤ 100 ∧
  (∀ ds : List Int, ds.length < n → readyL A n ds ≠ []) ∧ ∀ r (rs ms : List Int) H', Save p H H' → H r = none → H' r = some (.lst (rs.map V.int)) → H' p = some (.lst (ms.map V.int)) → rs.Nodup → (∀ x ∈ rs, 0 ≤ x ∧ x < n) → rs.length = n → Resp A rs → Q (.ref r) H'
def spLUnlike : Sp := fun vs H Q _ => ∃ (a b : Addr) (rs os : List Int), vs = [.ref a, .ref b] ∧ H a = some (.lst (rs.map V.int)) ∧ H b = some (.lst (os.map V.int)) ∧ os.Nodup ∧ (∀ x ∈ rs, x ∈ os) ∧ rs.length ≤ 100 ∧ os.length ≤ 100 ∧ ∀ H', Same H H' → Q (.int (XM.inv (rs.map (XM.ix os)) : Nat)) H'
theorem ready_in {A : Nat → List Int} {n : Nat} {ds : List Int} {e : Int} (h : e ∈ readyL A n ds) : ∃ k : Nat, e = k ∧ k < n ∧ e ∉ ds ∧ ∀ x ∈ A k, x ∈ ds := by
  obtain ⟨k, hk, rfl⟩ := List.mem_map.mp h
  obtain ⟨h1, h2⟩ := List.mem_filter.mp hk
  unfold okR at h2
  rw [Bool.and_eq_true, Bool.not_eq_true', decide_eq_false_iff_not, List.all_eq_true] at h2
  exact ⟨k, rfl, List.mem_range.mp h1, h2.1, fun x hx => of_decide_eq_true (h2.2 x hx)⟩
structure RowI (A : Nat → List Int) (n : Nat) (rs : List Int) : Prop where
  nd : rs.Nodup
  b : ∀ x ∈ rs, 0 ≤ x ∧ x < n
  re : Resp A rs
theorem RowI.snoc {A : Nat → List Int} {n : Nat} {rs : List Int} {e : Int} (h : RowI A n rs) (he : e ∈ readyL A n rs) : RowI A n (rs ++ [e]) := by
  obtain ⟨k, rfl, hk, hn, ha⟩ := ready_in he
  refine ⟨List.nodup_append.mpr ⟨h.nd, by simp, fun x hx y hy e => ?_⟩, fun x hx => ?_, fun j f hj x hx => ?_⟩
  · rw [List.mem_singleton] at hy
    subst hy
    subst e
    exact hn hx
  · rcases List.mem_append.mp hx with hx | hx
    · exact h.b x hx
    · rw [List.mem_singleton] at hx
      subst hx
      omega
  · by_cases hjl : j < rs.length
    · rw [List.getElem?_append_left hjl] at hj
      rw [List.take_append_of_le_length (by omega)]
      exact h.re j f hj x hx
    · have hl := (List.getElem?_eq_some_iff.mp hj).1
      rw [List.length_append, List.length_singleton] at hl
      have ej : j = rs.length := by omega
      subst ej
      rw [List.getElem?_append_right (Nat.le_refl _), Nat.sub_self] at hj
      have ef : f = (k : Int) := (Option.some.inj hj).symm
      subst ef
      rw [List.take_left']
      · rw [Int.toNat_natCast] at hx
        exact ha x hx
      · rfl
theorem _root_.L2.Save.mut {p r : Addr} {H H' : Hp} {o : HO} (s : Save p H H') (h : H r = none) : Save p H (upd H' r o) := fun b u n e => by
  rw [upd_ne (ne_of_none e h)]
  exact s b u n e
theorem _root_.L2.Save.freeP {p b : Addr} {H H' : Hp} {o : HO} (s : Save p H H') (hp : H' p = some o) (h : H' b = none) : H b = none := by
  cases q : H b with
  | none => rfl
  | some u =>
    have n : b ≠ p := fun e => by rw [e, hp] at h; cases h
    rw [s b u n q] at h
    cases h
theorem cutV_to {xs : List V} {k : Nat} (h : k ≤ xs.length) : cutV xs none (some (k : Int)) = xs.take k := by
  unfold cutV
  rw [HT.sIx_nat, HT.sIx_none, Nat.min_eq_left h]
  rfl
def AI (n : Nat) (ps : List (Int × Int)) (A : Nat → List Int) : Prop := ∀ f, f < n → (A f).Nodup ∧ ∀ x ∈ A f, ∃ k : Nat, x = k ∧ k < n ∧ XM.mids (XM.PR ps) n k f
def spAheads : Sp := fun vs H Q _ => ∃ (a : Addr) (xs : List V) (ps : List (Int × Int)) (n : Nat), vs = [.int n, .ref a] ∧ H a = some (.lst xs) ∧ PairsAt H xs ps ∧ Val2 n ps ∧ n ≤ 100 ∧
  ∀ g (as : List Addr) (A : Nat → List Int) H', Same H H' → H g = none → (∀ b ∈ as, H b = none) → H' g = some (.lst (as.map V.ref)) → as.length = n → (∀ k b, as[k]? = some b → H' b = some (.lst ((A k).map V.int))) → AI n ps A →
    (∀ e f : Nat, ((e : Int), (f : Int)) ∈ ps → (e : Int) ∈ A f) → Q (.ref g) H'
/-- the lists while they grow -/
structure RA (H0 H : Hp) (g : Addr) (as : List Addr) (A : Nat → List Int) (n : Nat) : Prop where
  s : Same H0 H
  hg : H g = some (.lst (as.map V.ref))
  len : as.length = n
  nd : as.Nodup
  fg : H0 g = none
  fr : ∀ a ∈ as, H0 a = none ∧ a ≠ g
  at_ : ∀ k a, as[k]? = some a → H a = some (.lst ((A k).map V.int))
theorem RA.put {H0 H : Hp} {g a : Addr} {as : List Addr} {A : Nat → List Int} {n f : Nat} (h : RA H0 H g as A n) (ha : as[f]? = some a) (L : List Int) : RA H0 (upd H a (.lst (L.map V.int))) g as (fun k => if k = f then L else A k) n := by
  obtain ⟨h1, h2⟩ := h.fr a (mem_at ha)
  refine ⟨h.s.mut h1, by rw [upd_ne (Ne.symm h2)]; exact h.hg, h.len, h.nd, h.fg, h.fr, fun k b hb => ?_⟩
  by_cases e : k = f
  · subst e
    rw [ha] at hb
    cases hb
    rw [upd_same, if_pos rfl]
  · have ne : b ≠ a := fun z => by
      subst z
      exact e (nd_ix h.nd hb ha)
    rw [upd_ne ne, if_neg e]
    exact h.at_ k b hb
theorem RA.same {H0 H H' : Hp} {g : Addr} {as : List Addr} {A : Nat → List Int} {n : Nat} (h : RA H0 H g as A n) (s : Same H H') : RA H0 H' g as A n := ⟨h.s.trans s, s _ _ h.hg, h.len, h.nd, h.fg, h.fr, fun k b hb => s _ _ (h.at_ k b hb)⟩
section
variable {P : Program} {w : World} {K : PySem.W.Frag} {mg : Str → Option Value} {base : Heap} {CO CR CD : Addr}
theorem ok_law_ready {f : Addr} {fd : FuncData} (F : Fun K "_law_ready" "_law_ready" s__law_ready f fd) (T : Txt K mg CO) (c__law_subset : CalD P w K mg base CX0 1 "_law_subset" spSubset) : FnOk P w K mg base CX0 2 f fd ["aheads", "done"] spReady := by
  refine F.ok sc__law_ready (fun vs H Q E h => ?_) (fun cdv A outer s H vs Q E hr h => ?_)
  · obtain ⟨p, g, d, as, B, n, ds, rfl, _⟩ := h
    rfl
  · obtain ⟨p, g, d, as, B, n, ds, rfl, hA, hd, hn, q⟩ := h
    refine ⟨_, (pss_one (ps_ret (pe_lc (own := [("e", 2)]) rfl sc__law_ready.nd (pi_range1 rfl T.b_range (pa_cons (pe_callB c_len0 (by rfl) T.b_len (by decide +kernel) (pa_cons (pv 0) pa_nil)) pa_nil)) (blkOk_by (N := ["aheads", "done", "e"]) (sc := (defScope s__law_ready)) (by decide +kernel)) (fun _ _ _ _ _ => (pg_name (i := 2) sc__law_ready.nd rfl (Or.inl rfl))) (fun _ _ _ _ _ => (pts_one (PW.pt (pw_and (pt_cmpR op_niI (pv 2) (pv 1) (by first | rfl | with_unfolding_all rfl)) (pw_and1 (pt_val (pe_f c__law_subset hr (by decide) pass0 rfl (pa_cons (pe_ix ix0 (pv 0) (pv 2) (fun _ _ => rfl)) (pa_cons (pv 1) pa_nil))))))))) (fun _ _ _ _ _ => (pv 2))))), ?_⟩
    have hlg : (as.map V.ref).length = n := by rw [List.length_map, hA.len]
    refine ⟨_, rfl, g, _, rfl, .inl hA.hg, _, rfl, by omega, by omega, fun D hD => ?_⟩
    rw [hlg, Int.toNat_natCast]
    refine lc_val n (sz_small (by omega)) hD (fun i => ((List.range i).filter (okR B ds)).map fun k : Nat => V.int (k : Int)) (fun _ _ _ hi => hi) (fun _ _ => Nat.le_refl _) rfl (fun i H2 x H3 Nx hi s2 y N1 N0 => ?_) (fun H2 s2 hD2 hl => ?_)
    · obtain ⟨rfl, rfl⟩ := y
      rw [Int.zero_add]
      obtain ⟨a, ha, hHa⟩ := hA.get hi
      refine ⟨rfl, _, rfl, _, rfl, d, (i : Nat), ds, rfl, rfl, .inl (s2 _ _ hd), _, rfl, ?_⟩
      by_cases hm : (i : Int) ∈ ds
      · refine if_f (by simp [hm]) (if_f (by simp) (N0 _ (Same.refl _) ?_))
        rw [List.range_succ, List.filter_append, List.map_append]
        simp [okR, hm]
      · refine if_t (by simp [hm]) ⟨_, rfl, _, rfl, g, _, (i : Nat), _, rfl, rfl, .inl (s2 _ _ hA.hg), atI_nat (refs_at ha), _, rfl, a, d, B i, ds, rfl, .inl (s2 _ _ hHa), .inl (s2 _ _ hd), _, rfl, ?_⟩
        cases hb : (B i).all fun x => decide (x ∈ ds) with
        | true =>
          refine if_t rfl ⟨_, rfl, N1 _ _ (Same.refl _) ?_⟩
          rw [List.range_succ, List.filter_append, List.map_append]
          have e : okR B ds i = true := by unfold okR; rw [hb]; simp [hm]
          rw [List.filter_cons, if_pos e]
          rfl
        | false =>
          refine if_f (by simp) (N0 _ (Same.refl _) ?_)
          rw [List.range_succ, List.filter_append, List.map_append]
          have e : okR B ds i = false := by unfold okR; rw [hb]; simp
          rw [List.filter_cons, if_neg (by rw [e]; exact Bool.false_ne_true)]
          simp
    · refine q D H2 s2 hD ?_
      rw [hD2, readyL, List.map_map]
      rfl
theorem ok_law_row {f : Addr} {fd : FuncData} (F : Fun K "_law_row" "_law_row" s__law_row f fd) (T : Txt K mg CO) (c__law_ready : CalD P w K mg base CX0 2 "_law_ready" spReady) (c__law_next : CalD P w K mg base CX0 1 "_law_next" spNext) : FnOk P w K mg base CX0 3 f fd ["pool", "aheads", "last"] spLRow := by
  refine F.ok sc__law_row (fun vs H Q E h => ?_) (fun cdv A outer s H vs Q E hr h => ?_)
  · obtain ⟨p, g, last, as, B, n, ns, rfl, _⟩ := h
    rfl
  · obtain ⟨p, g, last, as, B, n, ns, rfl, hA, hp, hn, hne, q⟩ := h
    refine ⟨_, (pss_cons (ps_set (i := 3) sc__law_row.nd rfl (Or.inl rfl) (pe_lst pa_nil))
      (pss_cons (ps_for PassesOwn.never rfl (pi_range1 rfl T.b_range (pa_cons (pe_callB c_len0 (by rfl) T.b_len (by decide +kernel) (pa_cons (pv 1) pa_nil)) pa_nil)) (pg_name (i := 4) sc__law_row.nd rfl (Or.inl rfl)) (pss_cons (ps_set (i := 5) sc__law_row.nd rfl (Or.inl rfl) (pe_f c__law_ready hr (by decide) pass0 rfl (pa_cons (pv 1) (pa_cons (pv 3) pa_nil))))
      (pss_cons (ps_set (i := 6) sc__law_row.nd rfl (Or.inl rfl) (pe_f c__law_next hr (by decide) pass0 rfl (pa_cons (pv 0) (pa_cons (pe_callB c_len0 (by rfl) T.b_len (by decide +kernel) (pa_cons (pv 5) pa_nil)) pa_nil))))
      (pss_cons (ps_if (pt_val (pv 2)) (pss_one (ps_set (i := 6) sc__law_row.nd rfl (Or.inl rfl) (pe_op op_sub (pe_op op_sub (pe_callB c_len0 (by rfl) T.b_len (by decide +kernel) (pa_cons (pv 5) pa_nil)) pe_int) (pv 6)))) pss_nil)
      (pss_one (ps_expr (pe_bm PySem.F.plainAttrs_list PySem.F.slot_list_append PySem.F.type_list_append mt_append (pv 3) (pa_cons (pe_ix ix0 (pv 5) (pv 6) (fun _ _ => rfl)) pa_nil))))))))
      (pss_one (ps_ret (pv 3))))), ?_⟩
    refine ⟨by show 0 ≤ sizeLine; decide, fun r hrr => ?_⟩
    have nrp : r ≠ p := fun e => by rw [e, hp] at hrr; cases hrr
    have s0 := Same.new (o := .lst []) hrr
    have hlg : (as.map V.ref).length = n := by rw [List.length_map, hA.len]
    refine ⟨_, rfl, g, _, rfl, .inl (s0 _ _ hA.hg), _, rfl, by omega, by omega, ?_⟩
    rw [hlg, Int.toNat_natCast]
    refine for_it n (fun i σ H' => (∃ x4 x5 x6, σ = [some (.ref p), some (.ref g), some (.bl last), some (.ref r), x4, x5, x6]) ∧ Save p H H' ∧ ∃ rs ms : List Int, H' r = some (.lst (rs.map V.int)) ∧ H' p = some (.lst (ms.map V.int)) ∧ rs.length = i ∧ RowI B n rs)
      ⟨⟨_, _, _, rfl⟩, s0.save, [], ns, upd_same, s0 _ _ hp, rfl, List.nodup_nil, fun _ h => absurd h List.not_mem_nil, fun j f h => by cases h⟩ (fun _ _ _ hi _ => hi) (fun _ _ _ => Nat.le_refl _) (fun i v σ H1 H2 hi pv y => ?_) (fun σ H1 pv => ?_)
    · obtain ⟨rfl, rfl⟩ := y
      obtain ⟨⟨x4, x5, x6, rfl⟩, s1, rs, ms, h1r, h1p, hl, I⟩ := pv
      refine ⟨_, rfl, _, rfl, p, g, r, as, B, n, rs, rfl, hA.save s1, h1r, hn, fun q1 H2 s2 hq1 hq2 => ?_⟩
      have hpos : 0 < (readyL B n rs).length := List.length_pos_iff.mpr (hne rs (by omega))
      have hlr : ((readyL B n rs).map V.int).length = (readyL B n rs).length := List.length_map _
      have nqp : q1 ≠ p := fun e => by rw [e, h1p] at hq1; cases hq1
      refine ⟨_, rfl, _, rfl, q1, _, rfl, .inl hq2, p, ms, _, rfl, s2 _ _ h1p, by omega, fun k ms3 H3 k0 k1 s3 fr h3p => ?_⟩
      have h3r : H3 r = some (.lst (rs.map V.int)) := s3 _ _ nrp (s2 _ _ h1r)
      have h3q := s3 _ _ nqp hq2
      have sv3 : Save p H H3 := (s1.trans s2.save).trans s3
      obtain ⟨k, rfl⟩ := Int.eq_ofNat_of_zero_le k0
      rw [hlr] at k1
      have post : ∀ t : Nat, t < (readyL B n rs).length → ∃ z, (readyL B n rs)[t]? = some z ∧ RowI B n (rs ++ [z]) := fun t ht => ⟨_, List.getElem?_eq_getElem ht, I.snoc (List.getElem_mem ht)⟩
      refine ⟨_, rfl, last, rfl, ?_⟩
      cases last with
      | true =>
        refine if_t rfl ⟨_, rfl, q1, _, rfl, .inl h3q, _, _, rfl, rfl, _, rfl, _, _, rfl, rfl, ?_⟩
        dsimp only
        rw [hlr]
        have et : ((readyL B n rs).length : Int) - 1 - (k : Int) = (((readyL B n rs).length - 1 - k : Nat) : Int) := by omega
        rw [et]
        obtain ⟨z, hz, I2⟩ := post ((readyL B n rs).length - 1 - k) (by omega)
        have hzv : ((readyL B n rs).map V.int)[(readyL B n rs).length - 1 - k]? = some (.int z) := by rw [List.getElem?_map, hz]; rfl
        refine ⟨_, rfl, tyL h3r, _, rfl, _, rfl, q1, _, _, _, rfl, rfl, .inl h3q, atI_nat hzv, r, _, _, rfl, rfl, h3r, by rw [List.length_map]; exact sz_small (by omega), ?_⟩
        exact ⟨⟨_, _, _, rfl⟩, sv3.mut hrr, rs ++ [z], ms3, by rw [upd_same, List.map_append]; rfl, by rw [upd_ne (Ne.symm nrp)]; exact h3p, by rw [List.length_append, List.length_singleton, hl], I2⟩
      | false =>
        refine if_f (by simp) ?_
        obtain ⟨z, hz, I2⟩ := post k (by omega)
        have hzv : ((readyL B n rs).map V.int)[k]? = some (.int z) := by rw [List.getElem?_map, hz]; rfl
        refine ⟨_, rfl, tyL h3r, _, rfl, _, rfl, q1, _, _, _, rfl, rfl, .inl h3q, atI_nat hzv, r, _, _, rfl, rfl, h3r, by rw [List.length_map]; exact sz_small (by omega), ?_⟩
        exact ⟨⟨_, _, _, rfl⟩, sv3.mut hrr, rs ++ [z], ms3, by rw [upd_same, List.map_append]; rfl, by rw [upd_ne (Ne.symm nrp)]; exact h3p, by rw [List.length_append, List.length_singleton, hl], I2⟩
    · obtain ⟨⟨x4, x5, x6, rfl⟩, s1, rs, ms, h1r, h1p, hl, I⟩ := pv
      exact ⟨_, rfl, q r rs ms H1 s1 hrr h1r h1p I.nd I.b hl I.re⟩
theorem ok_law_unlike {f : Addr} {fd : FuncData} (F : Fun K "_law_unlike" "_law_unlike" s__law_unlike f fd) (T : Txt K mg CO) : FnOk P w K mg base CX0 1 f fd ["row", "other"] spLUnlike := by
  refine F.ok sc__law_unlike (fun vs H Q E h => ?_) (fun cdv A outer s H vs Q E hr h => ?_)
  · obtain ⟨a, b, rs, os, rfl, _⟩ := h
    rfl
  · obtain ⟨a, b, rs, os, rfl, ha, hb, nd, hin, l1, l2, q⟩ := h
    refine ⟨_, (pss_cons (ps_set (i := 2) sc__law_unlike.nd rfl (Or.inl rfl) pe_int)
      (pss_cons (ps_for PassesOwn.never rfl (pi_range1 rfl T.b_range (pa_cons (pe_callB c_len0 (by rfl) T.b_len (by decide +kernel) (pa_cons (pv 0) pa_nil)) pa_nil)) (pg_name (i := 3) sc__law_unlike.nd rfl (Or.inl rfl)) (pss_one (ps_for PassesOwn.never rfl (pi_seqA (pe_slice sl0 (pv 0) po_none (po_some (pv 3)))) (pg_name (i := 4) sc__law_unlike.nd rfl (Or.inl rfl)) (pss_one (ps_if (pt_cmpR op_gt (pe_bm PySem.F.plainAttrs_list PySem.F.slot_list_index PySem.F.type_list_index mt_index (pv 1) (pa_cons (pv 4) pa_nil)) (pe_bm PySem.F.plainAttrs_list PySem.F.slot_list_index PySem.F.type_list_index mt_index (pv 1) (pa_cons (pe_ix ix0 (pv 0) (pv 3) (fun _ _ => rfl)) pa_nil)) (nomark _)) (pss_one (ps_set (i := 2) sc__law_unlike.nd rfl (Or.inl rfl) (pe_op op_add (pv 2) pe_int))) pss_nil)))))
      (pss_one (ps_ret (pv 2))))), ?_⟩
    have hla : (rs.map V.int).length = rs.length := List.length_map _
    refine ⟨_, rfl, a, _, rfl, .inl ha, _, rfl, by omega, by omega, ?_⟩
    rw [hla, Int.toNat_natCast]
    have hix : ∀ x ∈ rs, ∃ j : Nat, os[j]? = some x ∧ (j : Int) = XM.ix os x := fun x hx => ⟨(XM.ix os x).toNat, XM.get_ix (hin x hx), Int.toNat_of_nonneg (XM.ix_nonneg os x)⟩
    have hlp : (rs.map (XM.ix os)).length = rs.length := List.length_map _
    generalize hqs : rs.map (XM.ix os) = qs at *
    refine for_it rs.length (fun i σ H' => (∃ x3 x4, σ = [some (.ref a), some (.ref b), some (.int ((((List.range i).map (XM.cntL qs)).sum : Nat) : Int)), x3, x4]) ∧ Same H H') ⟨⟨_, _, rfl⟩, Same.refl _⟩ (fun _ _ _ hi _ => hi) (fun _ _ _ => Nat.le_refl _) (fun i v σ H1 H2 hi pv y => ?_) (fun σ H1 pv => ?_)
    · obtain ⟨rfl, rfl⟩ := y
      obtain ⟨⟨x3, x4, rfl⟩, s1⟩ := pv
      rw [Int.zero_add]
      have hx : rs[i]? = some (rs[i]'hi) := List.getElem?_eq_getElem hi
      obtain ⟨jx, gx, ex⟩ := hix _ (List.getElem_mem hi)
      have hxv : (rs.map V.int)[i]? = some (.int (rs[i]'hi)) := by rw [List.getElem?_map, hx]; rfl
      generalize rs[i]'hi = x at *
      have hqi : qs.getD i 0 = XM.ix os x := by rw [List.getD_eq_getElem?_getD, ← hqs, List.getElem?_map, hx]; rfl
      refine ⟨_, rfl, _, rfl, (i : Nat), rfl, a, _, rfl, s1 _ _ ha, fun c hc => ?_⟩
      have ecut : cutV (rs.map V.int) none (some (i : Int)) = (rs.take i).map V.int := by
        rw [cutV_to (by rw [List.length_map]; omega), List.map_take]
      rw [ecut]
      have sc := Same.new (o := .lst ((rs.take i).map V.int)) hc
      refine ⟨c, _, rfl, .inl upd_same, fun J G => ?_⟩
      refine for_it ((rs.take i).map V.int).length (fun j σ H' => H' = upd H2 c (.lst ((rs.take i).map V.int)) ∧ ∃ x4, σ = [some (.ref a), some (.ref b), some (.int (((((List.range i).map (XM.cntL qs)).sum + ((qs.take j).filter fun y => decide (XM.ix os x < y)).length : Nat)) : Int)), some (.int (i : Nat)), x4]) ⟨rfl, _, rfl⟩
        (fun j _ _ hj p => G.go j _ (by rw [p.1]) hj) (fun _ _ p => G.st _ (by rw [p.1])) (fun j v σ H3 H4 hj p y => ?_) (fun σ H3 p => ?_)
      · obtain ⟨rfl, x4, rfl⟩ := p
        obtain ⟨rfl, hv⟩ := G.yl j _ v _ rfl y
        obtain ⟨z, hz, rfl⟩ := ints_at hv
        have hji : j < i := by
          rw [List.length_map, List.length_take] at hj
          omega
        have hz2 : rs[j]? = some z := by
          rw [List.getElem?_take, if_pos hji] at hz
          exact hz
        obtain ⟨jz, gz, ez⟩ := hix z (mem_at hz2)
        have hb2 := sc _ _ (s1 _ _ hb)
        have ha2 := sc _ _ (s1 _ _ ha)
        have hqj : qs[j]? = some (XM.ix os z) := by rw [← hqs, List.getElem?_map, hz2]; rfl
        refine ⟨_, rfl, tyL hb2, _, rfl, b, _, .int z, jz, .int z, rfl, rfl, SqL.of hb2, rfl, flat_ints _, by rw [List.getElem?_map, gz]; rfl, eqV_self _, ix_first nd gz, ?_⟩
        refine ⟨_, rfl, tyL hb2, _, rfl, _, rfl, a, _, (i : Nat), _, rfl, rfl, .inl ha2, atI_nat hxv, b, _, .int x, jx, .int x, rfl, rfl, SqL.of hb2, rfl, flat_ints _, by rw [List.getElem?_map, gx]; rfl, eqV_self _, ix_first nd gx, ?_⟩
        refine ⟨_, _, rfl, rfl, _, rfl, ?_⟩
        have et : (qs.take (j + 1)).filter (fun y => decide (XM.ix os x < y)) = (qs.take j).filter (fun y => decide (XM.ix os x < y)) ++ if XM.ix os x < XM.ix os z then [XM.ix os z] else [] := by
          rw [take_succ hqj, List.filter_append]
          congr 1
          by_cases h : XM.ix os x < XM.ix os z
          · rw [if_pos h]; simp [h]
          · rw [if_neg h]; simp [h]
        by_cases hlt : (jx : Int) < jz
        · refine if_t (decide_eq_true hlt) ⟨_, rfl, _, _, rfl, rfl, rfl, some (.int z), ?_⟩
          rw [et, if_pos (by omega), List.length_append, List.length_singleton]
          dsimp only
          rw [← Nat.add_assoc]
          rfl
        · refine if_f (by simp; omega) ⟨rfl, some (.int z), ?_⟩
          rw [et, if_neg (by omega), List.append_nil]
          rfl
      · obtain ⟨rfl, x4, rfl⟩ := p
        refine ⟨⟨some (.int (i : Nat)), x4, ?_⟩, s1.trans sc⟩
        rw [List.range_succ, List.map_append, List.sum_append, List.length_map, List.length_take, Nat.min_eq_left (by omega)]
        have ec : XM.cntL qs i = ((qs.take i).filter fun y => decide (XM.ix os x < y)).length := by unfold XM.cntL; rw [hqi]
        rw [← ec]
        rfl
    · obtain ⟨⟨x3, x4, rfl⟩, s1⟩ := pv
      refine ⟨_, rfl, ?_⟩
      have e := XM.cntL_sum qs
      rw [hlp] at e
      rw [e]
      exact q H1 s1
theorem ok_law_aheads {f : Addr} {fd : FuncData} (F : Fun K "_law_aheads" "_law_aheads" s__law_aheads f fd) (T : Txt K mg CO) : FnOk P w K mg base CX0 1 f fd ["size", "pairs"] spAheads := by
  refine F.ok sc__law_aheads (fun vs H Q E h => ?_) (fun cdv A outer s H vs Q E hr h => ?_)
  · obtain ⟨a, xs, ps, n, rfl, _⟩ := h
    rfl
  · obtain ⟨a, xs, ps, n, rfl, ha, hp, hv, hn, q⟩ := h
    refine ⟨_, (pss_cons (ps_setLc (i := 3) (own := [("e", 2)]) rfl sc__law_aheads.nd rfl rfl (sw_true rfl rfl rfl (by decide +kernel)) (pi_range1 rfl T.b_range (pa_cons (pv 0) pa_nil)) (blkOk_by (N := ["size", "pairs", "e", "rows", "turn", "f", "row", "one"]) (sc := (defScope s__law_aheads)) (by decide +kernel)) (fun _ _ _ _ _ => (pg_name (i := 2) sc__law_aheads.nd rfl (Or.inl rfl))) (fun _ _ _ _ _ => pts_nil) (fun _ _ _ _ _ => (pe_lst pa_nil)))
      (pss_cons (ps_for PassesOwn.never rfl (pi_range1 rfl T.b_range (pa_cons (pv 0) pa_nil)) (pg_name (i := 4) sc__law_aheads.nd rfl (Or.inl rfl)) (pss_one (ps_for PassesOwn.never rfl (pi_seqA (pv 1)) (pg_tup0 (n := 2) rfl (pgs_cons (pg_name (i := 2) sc__law_aheads.nd rfl (Or.inl rfl)) (pgs_cons (pg_name (i := 5) sc__law_aheads.nd rfl (Or.inl rfl)) pgs_nil))) (pss_cons (ps_set (i := 6) sc__law_aheads.nd rfl (Or.inl rfl) (pe_ix ix0 (pv 3) (pv 5) (fun _ _ => rfl)))
      (pss_one (ps_for PassesOwn.never rfl (pi_seqA (pe_op op_cat (pe_lst (pa_cons (pv 2) pa_nil)) (pe_ix ix0 (pv 3) (pv 2) (fun _ _ => rfl)))) (pg_name (i := 7) sc__law_aheads.nd rfl (Or.inl rfl)) (pss_one (ps_if (pt_cmpR op_niI (pv 7) (pv 6) (by first | rfl | with_unfolding_all rfl)) (pss_one (ps_expr (pe_bm PySem.F.plainAttrs_list PySem.F.slot_list_append PySem.F.type_list_append mt_append (pv 6) (pa_cons (pv 7) pa_nil)))) pss_nil))))))))
      (pss_one (ps_ret (pv 3))))), ?_⟩
    refine ⟨_, rfl, _, rfl, by omega, by omega, fun g hg => ?_⟩
    rw [Int.toNat_natCast]
    refine lc_go n (sz_small (by omega)) hg (fun i acc H' => ∃ as : List Addr, acc = as.map V.ref ∧ as.length = i ∧ as.Nodup ∧ ∀ b ∈ as, H b = none ∧ b ≠ g ∧ H' b = some (.lst [])) (fun _ _ _ hi => hi) (fun _ _ => Nat.le_refl _) (fun _ _ => ⟨[], rfl, rfl, List.nodup_nil, fun _ h => absurd h List.not_mem_nil⟩)
      (fun i acc H' o u _ _ ⟨as, e1, e2, e3, e4⟩ => ⟨as, e1, e2, e3, fun b hb => ⟨(e4 b hb).1, (e4 b hb).2.1, by rw [upd_ne (e4 b hb).2.1]; exact (e4 b hb).2.2⟩⟩)
      (fun i acc H1 x H2 Nx hi hl s1 hacc p y N1 N0 => ?_) (fun acc H1 s1 hacc hl p => ?_)
    · obtain ⟨rfl, rfl⟩ := y
      obtain ⟨as, rfl, e2, e3, e4⟩ := p
      refine ⟨rfl, lc_yes2 ⟨by show 0 ≤ sizeLine; decide, fun t ht => N1 _ _ (Same.new ht) ⟨as ++ [t], by rw [List.map_append]; rfl, by rw [List.length_append, e2]; rfl, List.nodup_append.mpr ⟨e3, by simp, fun x hx y hy e => ?_⟩, fun b hb => ?_⟩⟩⟩
      · rw [List.mem_singleton] at hy
        subst hy
        subst e
        rw [(e4 x hx).2.2] at ht
        cases ht
      · rcases List.mem_append.mp hb with hb2 | hb2
        · have nt : b ≠ t := fun z => by
            have h2 := (e4 b hb2).2.2
            rw [z, ht] at h2
            cases h2
          exact ⟨(e4 b hb2).1, (e4 b hb2).2.1, by rw [upd_ne nt]; exact (e4 b hb2).2.2⟩
        · rw [List.mem_singleton] at hb2
          have ng : t ≠ g := fun z => by
            rw [z, hacc] at ht
            cases ht
          rw [hb2]
          exact ⟨s1.free ht, ng, upd_same⟩
    obtain ⟨as, rfl, e2, e3, e4⟩ := p
    have R0 : RA H H1 g as (fun _ => []) n := ⟨s1, hacc, e2, e3, hg, fun b hb => ⟨(e4 b hb).1, (e4 b hb).2.1⟩, fun k b hb => (e4 b (mem_at hb)).2.2⟩
    refine ⟨_, rfl, _, rfl, by omega, by omega, ?_⟩
    rw [Int.toNat_natCast]
    refine for_it n (fun i σ H' => (∃ x2 x4 x5 x6 x7, σ = [some (.int n), some (.ref a), x2, some (.ref g), x4, x5, x6, x7]) ∧ ∃ B, RA H H' g as B n ∧ AI n ps B ∧ (0 < i → ∀ e f : Nat, ((e : Int), (f : Int)) ∈ ps → (e : Int) ∈ B f))
      ⟨⟨_, _, _, _, _, rfl⟩, _, R0, fun f _ => ⟨List.nodup_nil, fun _ h => absurd h List.not_mem_nil⟩, fun h => absurd h (Nat.lt_irrefl _)⟩ (fun _ _ _ hi _ => hi) (fun _ _ _ => Nat.le_refl _) (fun i v σ H2 H3 hi pv y => ?_) (fun σ H2 pv => ?_)
    · obtain ⟨rfl, rfl⟩ := y
      obtain ⟨⟨x2, x4, x5, x6, x7, rfl⟩, B, R, ai, _⟩ := pv
      refine ⟨_, rfl, a, xs, rfl, .inl (R.s _ _ ha), fun J G => ?_⟩
      have hlx : xs.length = ps.length := hp.1
      have hsame : ∀ {H' : Hp} {B : Nat → List Int}, RA H H' g as B n → H' a = H3 a := fun r => (r.s _ _ ha).trans (R.s _ _ ha).symm
      refine for_it xs.length (fun i σ H' => (∃ x2 x4 x5 x6 x7, σ = [some (.int n), some (.ref a), x2, some (.ref g), x4, x5, x6, x7]) ∧ ∃ B, RA H H' g as B n ∧ AI n ps B ∧ (∀ j, j < i → ∀ e f : Nat, ps[j]? = some ((e : Int), (f : Int)) → (e : Int) ∈ B f))
        ⟨⟨_, _, _, _, _, rfl⟩, B, R, ai, fun j h => absurd h (Nat.not_lt_zero _)⟩ (fun i _ H' hi ⟨_, _, r, _⟩ => G.go i H' (hsame r) hi) (fun _ H' ⟨_, _, r, _⟩ => G.st H' (hsame r)) (fun i v σ H4 H5 hi pv y => ?_) (fun σ H4 pv => ?_)
      · obtain ⟨⟨x2, x4, x5, x6, x7, rfl⟩, B, R, ai, has⟩ := pv
        obtain ⟨rfl, hx⟩ := G.yl i _ v _ (hsame R) y
        obtain ⟨t2, e, f, rfl, hp0, ht2⟩ := (hp.same R.s).2 i v hx
        obtain ⟨b1, b2, b3, b4⟩ := hv _ (mem_at hp0)
        simp only at b1 b2 b3 b4
        obtain ⟨e, rfl⟩ := Int.eq_ofNat_of_zero_le b1
        obtain ⟨f, rfl⟩ := Int.eq_ofNat_of_zero_le b3
        have be : e < n := by omega
        have bf : f < n := by omega
        have hR : ∀ k, k < n → ∃ b, as[k]? = some b := fun k hk => ⟨_, List.getElem?_eq_getElem (by have := R.len; omega)⟩
        obtain ⟨be', hbe⟩ := hR e be
        obtain ⟨bf', hbf⟩ := hR f bf
        refine ⟨t2, _, rfl, ht2, rfl, _, _, rfl, _, _, rfl, rfl, ?_⟩
        refine ⟨_, rfl, _, rfl, g, _, (f : Nat), _, rfl, rfl, .inl R.hg, atI_nat (refs_at hbf), ?_⟩
        refine ⟨_, rfl, by show 1 ≤ sizeLine; decide, fun c hc => ⟨_, rfl, _, rfl, g, _, (e : Nat), _, rfl, rfl, .inl (Same.new hc _ _ R.hg), atI_nat (refs_at hbe), ?_⟩⟩
        have hce := (R.same (Same.new (o := .lst [.int (e : Nat)]) hc)).at_ e be' hbe
        have nle := nodup_le (n := n) (ai e be).1 (fun x hx => by
          obtain ⟨k, rfl, hk, _⟩ := (ai e be).2 x hx
          omega)
        refine ⟨c, be', _, _, rfl, rfl, upd_same, hce, by rw [List.length_map]; exact sz_le (by simp; omega), fun d hd => ?_⟩
        have R1 := (R.same (Same.new (o := .lst [.int (e : Nat)]) hc)).same (Same.new (o := .lst ([.int (e : Nat)] ++ (B e).map V.int)) hd)
        have ed : [V.int (e : Nat)] ++ (B e).map V.int = ((e : Int) :: B e).map V.int := rfl
        have hdn : H d = none := ((R.same (Same.new (o := .lst [.int (e : Nat)]) hc)).s).free hd
        rw [ed] at R1 ⊢
        have hL : ∀ x ∈ (e : Int) :: B e, ∃ k : Nat, x = k ∧ k < n ∧ XM.mids (XM.PR ps) n k f := fun x hx => by
          have h0 : XM.mids (XM.PR ps) n e f := XM.mids_up _ n e f (mem_at hp0)
          rcases List.mem_cons.mp hx with z | z
          · exact ⟨e, z, be, h0⟩
          · obtain ⟨k, hk1, hk2, hk3⟩ := (ai e be).2 x z
            exact ⟨k, hk1, hk2, XM.mids_Tr n _ k e f hk2 be bf hk3 h0⟩
        generalize hL0 : (e : Int) :: B e = L0 at *
        have ndL : d ∉ as := fun h => by
          have := (R.fr d h).1
          obtain ⟨k, hk⟩ := List.mem_iff_getElem?.mp h
          have h2 := (R.same (Same.new (o := .lst [.int (e : Nat)]) hc)).at_ k d hk
          rw [hd] at h2
          cases h2
        refine ⟨d, _, rfl, .inl upd_same, fun J2 G2 => ?_⟩
        refine for_it (L0.map V.int).length (fun k σ H' => (∃ x4 x7, σ = [some (.int n), some (.ref a), some (.int (e : Nat)), some (.ref g), x4, some (.int (f : Nat)), some (.ref bf'), x7]) ∧ H' d = some (.lst (L0.map V.int)) ∧ ∃ B', RA H H' g as B' n ∧ AI n ps B' ∧ (∀ h x, x ∈ B h → x ∈ B' h) ∧ ∀ j x, j < k → L0[j]? = some x → x ∈ B' f)
          ⟨⟨_, _, rfl⟩, upd_same, B, R1, ai, fun _ _ h => h, fun j x h => absurd h (Nat.not_lt_zero _)⟩ (fun k _ H' hk p => G2.go k H' (by rw [p.2.1, upd_same]) hk) (fun _ H' p => G2.st H' (by rw [p.2.1, upd_same])) (fun k v σ H6 H7 hk p y => ?_) (fun σ H6 p => ?_)
        · obtain ⟨⟨x4, x7, rfl⟩, h6d, B', R', ai', up, ms⟩ := p
          obtain ⟨rfl, hx⟩ := G2.yl k _ v _ (by rw [h6d, upd_same]) y
          obtain ⟨z, hz, rfl⟩ := ints_at hx
          have hbB := R'.at_ f bf' hbf
          refine ⟨_, rfl, _, rfl, bf', z, B' f, rfl, rfl, .inl hbB, _, rfl, ?_⟩
          have nlf := nodup_le (n := n) (ai' f bf).1 (fun x hx => by
            obtain ⟨k, rfl, hk, _⟩ := (ai' f bf).2 x hx
            omega)
          by_cases hm : z ∈ B' f
          · refine if_f (by simp [hm]) ⟨⟨_, _, rfl⟩, h6d, B', R', ai', up, fun j x hj hjx => ?_⟩
            by_cases ej : j = k
            · subst ej
              rw [hz] at hjx
              cases hjx
              exact hm
            · exact ms j x (by omega) hjx
          · have ndf : d ≠ bf' := fun z => ndL (z ▸ mem_at hbf)
            refine if_t (by simp [hm]) ⟨_, rfl, tyL hbB, _, rfl, bf', _, _, rfl, rfl, hbB, by rw [List.length_map]; exact sz_small (by omega), ⟨_, _, rfl⟩, by rw [upd_ne ndf]; exact h6d, (fun k => if k = f then B' f ++ [z] else B' k), ?_, fun h hh => ?_, fun h x hx => ?_, fun j x hj hjx => ?_⟩
            · have := R'.put hbf (B' f ++ [z])
              rw [List.map_append] at this
              exact this
            · by_cases eh : h = f
              · subst eh
                simp only [if_true]
                refine ⟨List.nodup_append.mpr ⟨(ai' h hh).1, by simp, fun x hx y hy e => ?_⟩, fun x hx => ?_⟩
                · rw [List.mem_singleton] at hy
                  rw [e, hy] at hx
                  exact hm hx
                · rcases List.mem_append.mp hx with hx2 | hx2
                  · exact (ai' h hh).2 x hx2
                  · rw [List.mem_singleton] at hx2
                    rw [hx2]
                    exact hL z (mem_at hz)
              · simp only [if_neg eh]
                exact ai' h hh
            · by_cases eh : h = f
              · subst eh
                simp only [if_true]
                exact List.mem_append_left _ (up h x hx)
              · simp only [if_neg eh]
                exact up h x hx
            · simp only [if_true]
              by_cases ej : j = k
              · subst ej
                rw [hz] at hjx
                cases hjx
                simp
              · exact List.mem_append_left _ (ms j x (by omega) hjx)
        · obtain ⟨⟨x4, x7, rfl⟩, h6d, B', R', ai', up, ms⟩ := p
          refine ⟨⟨_, _, _, _, _, rfl⟩, B', R', ai', fun j hj e2 f2 hj2 => ?_⟩
          by_cases ej : j = i
          · subst ej
            rw [hp0] at hj2
            injection hj2 with hj2
            injection hj2 with z1 z2
            have z1' : e = e2 := by omega
            have z2' : f = f2 := by omega
            subst z1' z2'
            refine ms 0 e (by rw [List.length_map, ← hL0]; simp) (by rw [← hL0]; rfl)
          · exact up _ _ (has j (by omega) e2 f2 hj2)
      · obtain ⟨⟨x2, x4, x5, x6, x7, rfl⟩, B, R, ai, has⟩ := pv
        refine ⟨⟨_, _, _, _, _, rfl⟩, B, R, ai, fun _ e f hef => ?_⟩
        obtain ⟨j, hj⟩ := List.mem_iff_getElem?.mp hef
        exact has j (by rw [hlx]; exact (List.getElem?_eq_some_iff.mp hj).1) e f hj
    · obtain ⟨⟨x2, x4, x5, x6, x7, rfl⟩, B, R, ai, has⟩ := pv
      refine ⟨_, rfl, q g as B H2 R.s hg (fun b hb => (R.fr b hb).1) R.hg R.len R.at_ ai fun e f hef => ?_⟩
      by_cases hz : 0 < n
      · exact has hz e f hef
      · have := (hv _ hef).2.1
        simp only at this
        omega
end
end D15
set_option maxRecDepth 100000
set_option maxHeartbeats 4000000

namespace D15
open PySem L2
abbrev s__law_walks : Stmt := (top 35)
theorem sc__law_walks : FnScope ["order", "aheads", "row", "other", "due", "mine", "theirs", "told", "now", "at", "one", "two"] ["order", "aheads", "row", "other"] (defScope s__law_walks) := ⟨rfl, rfl, rfl, by decide +kernel, rfl, by decide +kernel, by decide +kernel⟩
abbrev s__law_unlike_bad : Stmt := (top 36)
theorem sc__law_unlike_bad : FnScope ["row", "other", "told", "e"] ["row", "other"] (defScope s__law_unlike_bad) := ⟨rfl, rfl, rfl, by decide +kernel, rfl, by decide +kernel, by decide +kernel⟩
abbrev s__law_exchange_bad : Stmt := (top 37)
theorem sc__law_exchange_bad : FnScope ["order", "row", "other", "due", "told", "e"] ["order", "row", "other", "due"] (defScope s__law_exchange_bad) := ⟨rfl, rfl, rfl, by decide +kernel, rfl, by decide +kernel, by decide +kernel⟩
theorem dp_ints (K : PySem.W.Frag) (H : Hp) : ∀ ns : List Int, DpAll K H (ns.map V.int) (ns.map PyData.int)
  | [] => .nil
  | n :: r => .cons (.int n) (dp_ints K H r)
theorem can_ints : ∀ ns : List Int, PyData.canLayAll0 (ns.map PyData.int) = true
  | [] => rfl
  | n :: r => by
    show (PyData.canLay0 (.int n) && PyData.canLayAll0 (r.map PyData.int)) = true
    rw [can_ints r]
    rfl
theorem depth_ints : ∀ ns : List Int, PyData.depthAll (ns.map PyData.int) ≤ 1
  | [] => by simp [PyData.depthAll]
  | n :: r => by
    have := depth_ints r
    simp [PyData.depthAll, PyData.depth] at this ⊢
    omega
theorem shaped_ints (ns : List Int) : SeqAt.shaped (.list (ns.map PyData.int)) = true := by
  have h := depth_ints ns
  have e : PyData.canLay0 (.list (ns.map PyData.int)) = true := can_ints ns
  unfold SeqAt.shaped
  rw [e, Bool.true_and]
  refine decide_eq_true ?_
  simp only [PyData.depth]
  omega
theorem eqv_ints (ns : List Int) : PyData.eqv (.list (ns.map PyData.int)) (.list (ns.map PyData.int)) = true := SeqAt.eqv_refl _ (can_ints ns)
def rIsiTup : RL := fun vs H Q => ∃ p ys, vs = [.ref p, .ty "tuple"] ∧ H p = some (.tup ys) ∧ Q (.bl true) H
theorem c_isiTup {X : Cx} : CallR X (.builtin "isinstance") rIsiTup := fun pins s σ H xs us Q I r ⟨p, ys, e, h, q⟩ =>
  call_isi pins s σ H xs us Q I r ⟨.ref p, .ty "tuple", .type "tuple", _, true, e, .ty _, .base (.tup h), kit_ty (r := true) (by decide +kernel), q⟩
theorem sh_ints {H : Hp} {a : Addr} {ns : List Int} (h : L2.Seq H a (ns.map V.int)) (hl : ns.length ≤ 4000) : Sh H (.ref a) (some (ns.map V.int)) := .yes h (fun x hx => by
  obtain ⟨z, _, rfl⟩ := List.mem_map.mp hx
  exact .int z) (by rw [List.length_map]; exact hl)
/-- a row: n different numbers below n -/
structure Row (n : Nat) (rs : List Int) : Prop where
  nd : rs.Nodup
  b : ∀ x ∈ rs, 0 ≤ x ∧ x < n
  l : rs.length = n
theorem Row.set {n : Nat} {rs : List Int} (h : Row n rs) : setB (rs.map V.int) n = true := by
  unfold setB
  rw [intsOf_map, Bool.and_eq_true]
  refine ⟨List.all_eq_true.mpr fun v hv => ?_, decide_eq_true h.nd⟩
  obtain ⟨z, hz, rfl⟩ := List.mem_map.mp hv
  obtain ⟨b1, b2⟩ := h.b z hz
  simp only [numB, Bool.and_eq_true, decide_eq_true_eq]
  omega
theorem Row.each {n : Nat} {rs : List Int} (h : Row n rs) : eachO (some (rs.map V.int)) = true := by
  show setB _ _ = true
  rw [List.length_map, h.l]
  exact h.set
theorem Row.perm {n : Nat} {rs os : List Int} (h : Row n rs) (g : Row n os) : rs.Perm os := by
  have h1 := h.set
  have h2 := g.set
  have := row_perm h1 h2 (by rw [List.length_map]; exact h.l) (by rw [List.length_map]; exact g.l) (by rw [intsOf_map]; exact h.l) (by rw [intsOf_map]; exact g.l) (by rw [intsOf_map]; exact g.nd)
  rw [intsOf_map, intsOf_map] at this
  exact this
theorem goodU_rows {n : Nat} {rs os : List Int} (h : Row n rs) (g : Row n os) : goodU (some (rs.map V.int)) (some (os.map V.int)) = true := by
  unfold goodU
  rw [h.each, g.each]
  simp [h.l, g.l]
structure GlD (mg : Str → Option Value) (x : Str) (C : Addr) : Prop where
  gl : mg x = some (.ref C)
def spUnlikeBad : Sp := fun vs H Q _ => ∃ v u o1 o2, vs = [v, u] ∧ Sh H v o1 ∧ Sh H u o2 ∧ goodU o1 o2 = false ∧ ∀ H', Same H H' → Q (.bl true) H'
def spExchBad (CO : Addr) : Sp := fun vs H Q _ => ∃ (o : Addr) (v u : V) (d : Int) (o1 o2 : Option (List V)) (n : Nat) (ps : List (Int × Int)), vs = [.ref o, v, u, .int d] ∧ OrderAt CO H o n ps ∧ Val2 n ps ∧ ps.length ≤ 4000 ∧ n ≤ 100 ∧ Sh H v o1 ∧ Sh H u o2 ∧
  ((rowB n ps o1 = false ∧ d = 0) ∨ (rowB n ps o1 = true ∧ rowB n ps o2 = false ∧ d = 1)) ∧ ∀ H', Same H H' → Q (.bl true) H'
def spWalks (CO : Addr) : Sp := fun vs H Q _ => ∃ (o g a b p : Addr) (n : Nat) (qs : List (Int × Int)) (as : List Addr) (A : Nat → List Int) (rs os : List Int), vs = [.ref o, .ref g, .ref a, .ref b] ∧ OrderAt CO H o n qs ∧ Val2 n qs ∧ qs.length ≤ 4000 ∧ AhAt p H g as A n ∧ n ≤ 100 ∧
  H a = some (.lst (rs.map V.int)) ∧ H b = some (.lst (os.map V.int)) ∧ Row n rs ∧ Row n os ∧ rowB n qs (some (rs.map V.int)) = true ∧ rowB n qs (some (os.map V.int)) = true ∧ Resp A os ∧ ∀ H', Same H H' → Q (.bl true) H'
section
variable {P : Program} {w : World} {K : PySem.W.Frag} {mg : Str → Option Value} {base : Heap} {CO CR CD : Addr}
theorem ok_law_walks {f : Addr} {fd : FuncData} (F : Fun K "_law_walks" "_law_walks" s__law_walks f fd) (T : Txt K mg CO) (c__law_unlike : CalD P w K mg base CX0 1 "_law_unlike" spLUnlike) (c__law_int : CalD P w K mg base CX0 1 "_law_int" spLInt)
    (c_unlike : CalD P w K mg base (L2.CX P w) 5 "unlike" (spUnlike CR)) (c_exchanges : CalD P w K mg base (L2.CX P w) 5 "exchanges" (spExch CO CR)) : FnOk P w K mg base CX0 6 f fd ["order", "aheads", "row", "other"] (spWalks CO) := by
  refine F.ok sc__law_walks (fun vs H Q E h => ?_) (fun cdv A outer s H vs Q E hr h => ?_)
  · obtain ⟨o, g, a, b, p, n, qs, as, B, rs, os, rfl, _⟩ := h
    rfl
  · obtain ⟨o, g, a, b, p, n, qs, as, B, rs, os, rfl, ho, hv, hql, hA, hn, ha, hb, rr, ro, wr, wo, re, q⟩ := h
    refine ⟨_, (pss_cons (ps_set (i := 4) sc__law_walks.nd rfl (Or.inl rfl) (pe_f c__law_unlike hr (by decide) pass0 rfl (pa_cons (pv 2) (pa_cons (pv 3) pa_nil))))
      (pss_cons (ps_set (i := 5) sc__law_walks.nd rfl (Or.inl rfl) (pe_callTy c_lst0 (by rfl) T.b_list (by decide +kernel) (pa_cons (pv 2) pa_nil)))
      (pss_cons (ps_set (i := 6) sc__law_walks.nd rfl (Or.inl rfl) (pe_callTy c_lst0 (by rfl) T.b_list (by decide +kernel) (pa_cons (pv 3) pa_nil)))
      (pss_cons (ps_if (PW.pt (pw_or (pt_not (pt_val (pe_f c__law_int hr (by decide) pass0 rfl (pa_cons (pe_f c_unlike hr (by decide) passL rfl (pa_cons (pv 5) (pa_cons (pv 6) pa_nil))) (pa_cons (pv 4) pa_nil))))) (pw_or1 (pt_not (pt_val (pe_f c__law_int hr (by decide) pass0 rfl (pa_cons (pe_f c_unlike hr (by decide) passL rfl (pa_cons (pe_callTy c_tup0 (by rfl) T.b_tuple (by decide +kernel) (pa_cons (pv 3) pa_nil)) (pa_cons (pe_callTy c_tup0 (by rfl) T.b_tuple (by decide +kernel) (pa_cons (pv 2) pa_nil)) pa_nil))) (pa_cons (pv 4) pa_nil)))))))) (pss_one (ps_ret pe_bl)) pss_nil)
      (pss_cons (ps_set (i := 7) sc__law_walks.nd rfl (Or.inl rfl) (pe_f c_exchanges hr (by decide) passL rfl (pa_cons (pv 0) (pa_cons (pv 5) (pa_cons (pv 6) pa_nil)))))
      (pss_cons (ps_if (PW.pt (pw_or (pt_cmpR (op_neD hr.units) (pv 5) (pv 2) (nomark _)) (pw_or (pt_cmpR (op_neD hr.units) (pv 6) (pv 3) (nomark _)) (pw_or (pt_not (pt_val (pe_callB c_isiTup (by rfl) T.b_isinstance (by decide +kernel) (pa_cons (pv 7) (pa_cons (pe_bltn (v := .ty "tuple") (by rfl) T.b_tuple (by decide +kernel) rfl) pa_nil))))) (pw_or1 (pt_cmpR op_ne (pe_callB c_len0 (by rfl) T.b_len (by decide +kernel) (pa_cons (pv 7) pa_nil)) (pv 4) (nomark _))))))) (pss_one (ps_ret pe_bl)) pss_nil)
      (pss_cons (ps_set (i := 8) sc__law_walks.nd rfl (Or.inl rfl) (pe_callTy c_lst0 (by rfl) T.b_list (by decide +kernel) (pa_cons (pv 2) pa_nil)))
      (pss_cons (ps_for PassesOwn.never rfl (pi_seqA (pv 7)) (pg_name (i := 9) sc__law_walks.nd rfl (Or.inl rfl)) (pss_cons (ps_if (PW.pt (pw_or (pt_not (pt_val (pe_callB c_isi0 (by rfl) T.b_isinstance (by decide +kernel) (pa_cons (pv 9) (pa_cons (pe_bltn (v := .ty "int") (by rfl) T.b_int (by decide +kernel) rfl) pa_nil))))) (pw_or (pt_val (pe_callB c_isi0 (by rfl) T.b_isinstance (by decide +kernel) (pa_cons (pv 9) (pa_cons (pe_bltn (v := .ty "bool") (by rfl) T.b_bool (by decide +kernel) rfl) pa_nil)))) (pw_or (pt_cmpR op_lt (pv 9) pe_int (nomark _)) (pw_or1 (pt_cmpR op_gt (pv 9) (pe_op op_sub (pe_callB c_len0 (by rfl) T.b_len (by decide +kernel) (pa_cons (pv 2) pa_nil)) pe_int) (nomark _))))))) (pss_one (ps_ret pe_bl)) pss_nil)
      (pss_cons (ps_set (i := 10) sc__law_walks.nd rfl (Or.inl rfl) (pe_ix ix0 (pv 8) (pv 9) (fun _ _ => rfl)))
      (pss_cons (ps_set (i := 11) sc__law_walks.nd rfl (Or.inl rfl) (pe_ix ix0 (pv 8) (pe_op op_add (pv 9) pe_int) (fun _ _ => rfl)))
      (pss_cons (ps_if (pt_cmpR op_inI (pv 10) (pe_ix ix0 (pv 1) (pv 11) (fun _ _ => rfl)) (by first | rfl | with_unfolding_all rfl)) (pss_one (ps_ret pe_bl)) pss_nil)
      (pss_cons (ps_asg (pv 11) (pg_sub (pv 8) (pv 9) set_list))
      (pss_one (ps_asg (pv 10) (pg_sub (pv 8) (pe_op op_add (pv 9) pe_int) set_list)))))))))
      (pss_one (ps_ret (pe_cmpR (op_eqD hr.units) (pv 8) (pv 3) (nomark _)))))))))))), ?_⟩
    have pm := rr.perm ro
    have lr := rr.l
    have lo := ro.l
    have gU := goodU_rows rr ro
    have gU2 := goodU_rows ro rr
    have eU : ∀ r1 r2 : List Int, (itemsO (some (r1.map V.int))).map (XM.ix (itemsO (some (r2.map V.int)))) = r1.map (XM.ix r2) := fun r1 r2 => by
      show (intsOf (r1.map V.int)).map (XM.ix (intsOf (r2.map V.int))) = _
      rw [intsOf_map, intsOf_map]
    have esym := XM.inv_sym rr.nd ro.nd pm
    refine ⟨_, rfl, _, rfl, a, b, rs, os, rfl, ha, hb, ro.nd, fun x hx => pm.mem_iff.mp hx, by omega, by omega, fun H1 s1 => ?_⟩
    refine ⟨_, rfl, a, _, rfl, .inl (s1 _ _ ha), fun m hm => ?_⟩
    have sm := Same.new (o := .lst (rs.map V.int)) hm
    refine ⟨_, rfl, b, _, rfl, .inl (sm _ _ (s1 _ _ hb)), fun t ht => ?_⟩
    have st := Same.new (o := .lst (os.map V.int)) ht
    have s3 := (s1.trans sm).trans st
    have hm3 := st _ _ (upd_same (H := H1) (a := m) (o := .lst (rs.map V.int)))
    have ht3 : upd (upd H1 m (.lst (rs.map V.int))) t (.lst (os.map V.int)) t = some (.lst (os.map V.int)) := upd_same
    generalize upd (upd H1 m (.lst (rs.map V.int))) t (.lst (os.map V.int)) = H3 at *
    refine ⟨_, rfl, _, rfl, .ref m, .ref t, _, _, rfl, sh_ints (.inl hm3) (by omega), sh_ints (.inl ht3) (by omega), fun _ H4 s4 => ?_, fun h => absurd (gU.symm.trans h) (by simp)⟩
    rw [eU]
    refine ⟨_, rfl, _, _, rfl, _, rfl, if_f (by simp) ?_⟩
    have s04 := s3.trans s4
    refine ⟨_, rfl, b, _, rfl, s04 _ _ hb, fun t1 ht1 => ⟨_, rfl, a, _, rfl, Same.new ht1 _ _ (s04 _ _ ha), fun t2 ht2 => ?_⟩⟩
    have sT := (Same.new (o := .tup (os.map V.int)) ht1).trans (Same.new (o := .tup (rs.map V.int)) ht2)
    have ht1' := Same.new (o := .tup (rs.map V.int)) ht2 _ _ (upd_same (H := H4) (a := t1) (o := .tup (os.map V.int)))
    refine ⟨.ref t1, .ref t2, _, _, rfl, sh_ints (.inr ht1') (by omega), sh_ints (.inr upd_same) (by omega), fun _ H5 s5 => ?_, fun h => absurd (gU2.symm.trans h) (by simp)⟩
    rw [eU, ← esym]
    refine ⟨_, rfl, _, _, rfl, _, rfl, if_f (by simp) ?_⟩
    have s35 := (s4.trans sT).trans s5
    have s05 := s3.trans s35
    refine ⟨_, rfl, _, rfl, _, rfl, o, .ref m, .ref t, _, _, n, qs, rfl, ho.same s05, hv, hql, hn, sh_ints (.inl (s35 _ _ hm3)) (by omega), sh_ints (.inl (s35 _ _ ht3)) (by omega), fun _ _ fs tt H6 s6 ht6 ht6' fa wk => ?_, fun h => absurd (wr.symm.trans h) (by simp), fun _ h => absurd (wo.symm.trans h) (by simp)⟩
    have e1 : itemsO (some (rs.map V.int)) = rs := intsOf_map rs
    have e2 : itemsO (some (os.map V.int)) = os := intsOf_map os
    rw [e1, e2] at fa wk
    have cnt := XM.walk_count fa wk ro.nd
    have s06 := s05.trans s6
    have s36 := s35.trans s6
    refine ⟨_, rfl, _, rfl, _, _, .lst (SqL.of (s36 _ _ hm3)) (dp_ints ..), .lst (SqL.of (s06 _ _ ha)) (dp_ints ..), shaped_ints rs, shaped_ints rs, _, rfl, ?_⟩
    rw [eqv_ints]
    refine if_f (by simp) ⟨_, rfl, _, rfl, _, _, .lst (SqL.of (s36 _ _ ht3)) (dp_ints ..), .lst (SqL.of (s06 _ _ hb)) (dp_ints ..), shaped_ints os, shaped_ints os, _, rfl, ?_⟩
    rw [eqv_ints]
    refine if_f (by simp) ⟨_, rfl, tt, _, rfl, ht6', _, rfl, if_f (by simp) ⟨_, rfl, tt, _, rfl, .inr ht6', _, rfl, rfl, _, rfl, if_f ?_ ?_⟩⟩
    · rw [List.length_map, cnt]
      simp
    refine ⟨_, rfl, a, _, rfl, .inl (s06 _ _ ha), fun w hw => ?_⟩
    have sw := Same.new (o := .lst (rs.map V.int)) hw
    have s07 := s06.trans sw
    have ht7 := sw _ _ ht6'
    have hw7 : upd H6 w (.lst (rs.map V.int)) w = some (.lst (rs.map V.int)) := upd_same
    have hwn : H w = none := s06.free hw
    have nwt : tt ≠ w := ne_of_none ht6' hw
    generalize upd H6 w (.lst (rs.map V.int)) = H7 at *
    refine ⟨_, rfl, tt, _, rfl, .inr ht7, fun J G => ?_⟩
    refine for_it (fs.map fun k : Nat => V.int (k : Int)).length (fun i σ H' => (∃ x9 x10 x11, σ = [some (.ref o), some (.ref g), some (.ref a), some (.ref b), some (.int ((XM.inv (rs.map (XM.ix os)) : Nat) : Int)), some (.ref m), some (.ref t), some (.ref tt), some (.ref w), x9, x10, x11]) ∧ Same H H' ∧ H' tt = some (.tup (fs.map fun k : Nat => V.int (k : Int))) ∧ H' w = some (.lst ((XM.walk rs (fs.take i)).map V.int)))
      ⟨⟨_, _, _, rfl⟩, s07, ht7, hw7⟩ (fun i _ H' hi p => G.go i H' (p.2.2.1.trans ht7.symm) hi) (fun _ H' p => G.st H' (p.2.2.1.trans ht7.symm)) (fun i v σ H8 H9 hi p y => ?_) (fun σ H8 p => ?_)
    · obtain ⟨⟨x9, x10, x11, rfl⟩, s8, h8t, h8w⟩ := p
      obtain ⟨rfl, hx⟩ := G.yl i _ v _ (h8t.trans ht7.symm) y
      rw [List.getElem?_map] at hx
      obtain ⟨k, hk, hkv⟩ := Option.map_eq_some_iff.mp hx
      subst hkv
      obtain ⟨f1, f2⟩ := XM.falls_at _ fs rs i k fa hk
      have lw : (XM.walk rs (fs.take i)).length = n := by rw [XM.walk_len, lr]
      have hnx : XM.walk rs (fs.take (i + 1)) = XM.swapAt (XM.walk rs (fs.take i)) k := by rw [take_succ hk, XM.walk_snoc]
      have pw : (XM.walk rs (fs.take i)).Perm os := (XM.falls_perm (XM.ix os) _ rs (XM.falls_take fa)).trans pm
      rw [hnx]
      generalize hl : XM.walk rs (fs.take i) = l at *
      have hx1 : l[k]? = some (l[k]'(by omega)) := List.getElem?_eq_getElem (by omega)
      have hy1 : l[k + 1]? = some (l[k + 1]'(by omega)) := List.getElem?_eq_getElem (by omega)
      generalize l[k]'(by omega) = x at hx1
      generalize l[k + 1]'(by omega) = z at hy1
      have hxv : (l.map V.int)[k]? = some (.int x) := by rw [List.getElem?_map, hx1]; rfl
      have hzv : (l.map V.int)[k + 1]? = some (.int z) := by rw [List.getElem?_map, hy1]; rfl
      have hlt : XM.ix os z < XM.ix os x := by
        rw [List.getD_eq_getElem?_getD, List.getD_eq_getElem?_getD, List.getElem?_map, List.getElem?_map, hx1, hy1] at f2
        exact f2
      have zo : z ∈ os := pw.mem_iff.mp (mem_at hy1)
      obtain ⟨z0, z1⟩ := ro.b z zo
      have hA8 : AhAt p H9 g as B n := hA.save s8.save
      obtain ⟨za, hza, hHza⟩ := hA8.get (k := z.toNat) (by omega)
      have ezn : ((z.toNat : Nat) : Int) = z := Int.toNat_of_nonneg z0
      have nin : ¬ x ∈ B z.toNat := fun h => by
        have g1 := XM.get_ix zo
        have h2 := re _ z g1 x h
        have h3 := XM.ix_take ro.nd h2
        have h4 := XM.ix_nonneg os z
        omega
      have lr' : (rs.map V.int).length = n := by rw [List.length_map, lr]
      refine ⟨_, rfl, _, .int _, .inl ⟨rfl, _, rfl, if_f (by simp [kiI]) ⟨_, rfl, _, .int _, .inr ⟨rfl, _, rfl, if_f (by simp [kiB]) ⟨_, rfl, _, _, rfl, rfl, _, rfl, if_f (by simp) ⟨_, rfl, _, rfl, a, _, rfl, .inl (s8 _ _ ha), _, _, rfl, rfl, _, _, rfl, rfl, _, rfl, if_f (by simp; omega) ?_⟩⟩⟩⟩⟩⟩
      refine ⟨_, rfl, _, rfl, w, _, (k : Nat), _, rfl, rfl, .inl h8w, atI_nat hxv, ?_⟩
      refine ⟨_, rfl, _, rfl, _, _, rfl, rfl, w, _, (k : Nat) + 1, _, rfl, rfl, .inl h8w, atI_nat (j := k + 1) hzv, ?_⟩
      refine ⟨_, rfl, _, rfl, _, rfl, g, _, z, _, rfl, rfl, .inl hA8.hg, by rw [← ezn]; exact atI_nat (refs_at hza), za, x, _, rfl, rfl, .inl hHza, _, rfl, if_f (by simp [nin]) ?_⟩
      refine ⟨_, rfl, _, rfl, _, rfl, w, _, (k : Nat), k, rfl, rfl, h8w, ixN_n (by rw [List.length_map]; omega), ?_⟩
      refine ⟨_, rfl, _, rfl, _, rfl, _, _, rfl, rfl, w, _, (k : Nat) + 1, k + 1, rfl, rfl, upd_same, by rw [List.length_set, List.length_map]; exact ixN_n (j := k + 1) (by omega), ?_⟩
      rw [set_ints l k (by omega) hy1 hx1]
      exact ⟨⟨_, _, _, rfl⟩, (s8.mut hwn).mut hwn, by rw [upd_ne nwt, upd_ne nwt]; exact h8t, upd_same⟩
    · obtain ⟨⟨x9, x10, x11, rfl⟩, s8, h8t, h8w⟩ := p
      rw [List.length_map, List.take_length, wk] at h8w
      refine ⟨_, rfl, _, rfl, _, _, .lst (SqL.of h8w) (dp_ints ..), .lst (SqL.of (s8 _ _ hb)) (dp_ints ..), shaped_ints os, shaped_ints os, ?_⟩
      rw [eqv_ints]
      exact q _ s8
theorem ok_law_unlike_bad {f : Addr} {fd : FuncData} (F : Fun K "_law_unlike_bad" "_law_unlike_bad" s__law_unlike_bad f fd) (T : Txt K mg CO) (c__law_int : CalD P w K mg base CX0 1 "_law_int" spLInt) (c_unlike : CalD P w K mg base (L2.CX P w) 5 "unlike" (spUnlike CR))
    (d_BadRow : ErD P w K mg base 2 "BadRow" CR "place") (d_DeepError : GlD mg "DeepError" CD) : FnOk P w K mg base CX0 6 f fd ["row", "other"] spUnlikeBad := by
  refine F.ok sc__law_unlike_bad (fun vs H Q E h => ?_) (fun cdv A outer s H vs Q E hr h => ?_)
  · obtain ⟨v, u, o1, o2, rfl, _⟩ := h
    rfl
  · obtain ⟨v, u, o1, o2, rfl, sh1, sh2, hb, q⟩ := h
    refine ⟨_, (pss_cons (ps_set (i := 2) sc__law_unlike_bad.nd rfl (Or.inl rfl) pe_non)
      (pss_cons (ps_try_mix rfl rfl sc__law_unlike_bad.nd takes0 (fun W pn xe tk _ => (pss_one (ps_expr (pe_fS c_unlike hr (by decide) (fun σ => passAt tk σ) rfl (pa_cons (pv 0) (pa_cons (pv 1) pa_nil)))))) (HdsMix.named (i := 3) rfl rfl ⟨rfl, by decide, .inl d_BadRow.gl⟩ (fun a oe cls d pn hz hf => (pss_one (ps_set (i := 2) sc__law_unlike_bad.nd rfl (Or.inl rfl) (pe_xf d_BadRow.xf d_BadRow.no hz hf (pv 3))))) (HdsMix.bare ⟨rfl, by decide, .inl d_DeepError.gl⟩ (fun a oe cls d pn hz hf => (pss_one (ps_set (i := 2) sc__law_unlike_bad.nd rfl (Or.inl rfl) pe_non))) HdsMix.nil)))
      (pss_one (ps_ret (pe_f c__law_int hr (by decide) pass0 rfl (pa_cons (pv 2) (pa_cons (pe_op op_sub pe_int pe_int) pa_nil))))))), ?_⟩
    refine ⟨_, rfl, _, rfl, v, u, o1, o2, rfl, sh1, sh2, fun h => absurd (hb.symm.trans h) (by simp), fun _ d H' e => ?_⟩
    refine ⟨true, d_BadRow.me, fun _ a ha => ?_, fun z => nomatch z⟩
    obtain ⟨fs, e1, e2⟩ := e.told
    refine ⟨_, rfl, rfl, rfl, d, fs, _, rfl, e1, e2, ?_⟩
    exact ⟨_, rfl, _, _, rfl, rfl, -1, 0 - 1, rfl, q _ e.2.1⟩
theorem ok_law_exchange_bad {f : Addr} {fd : FuncData} (F : Fun K "_law_exchange_bad" "_law_exchange_bad" s__law_exchange_bad f fd) (T : Txt K mg CO) (c__law_int : CalD P w K mg base CX0 1 "_law_int" spLInt) (c_exchanges : CalD P w K mg base (L2.CX P w) 5 "exchanges" (spExch CO CR))
    (d_BadRow : ErD P w K mg base 2 "BadRow" CR "place") (d_DeepError : GlD mg "DeepError" CD) : FnOk P w K mg base CX0 6 f fd ["order", "row", "other", "due"] (spExchBad CO) := by
  refine F.ok sc__law_exchange_bad (fun vs H Q E h => ?_) (fun cdv A outer s H vs Q E hr h => ?_)
  · obtain ⟨o, v, u, d, o1, o2, n, ps, rfl, _⟩ := h
    rfl
  · obtain ⟨o, v, u, dd, o1, o2, n, ps, rfl, ho, hv, hl, hn, sh1, sh2, hb, q⟩ := h
    refine ⟨_, (pss_cons (ps_set (i := 4) sc__law_exchange_bad.nd rfl (Or.inl rfl) pe_non)
      (pss_cons (ps_try_mix rfl rfl sc__law_exchange_bad.nd takes0 (fun W pn xe tk _ => (pss_one (ps_expr (pe_fS c_exchanges hr (by decide) (fun σ => passAt tk σ) rfl (pa_cons (pv 0) (pa_cons (pv 1) (pa_cons (pv 2) pa_nil))))))) (HdsMix.named (i := 5) rfl rfl ⟨rfl, by decide, .inl d_BadRow.gl⟩ (fun a oe cls d pn hz hf => (pss_one (ps_set (i := 4) sc__law_exchange_bad.nd rfl (Or.inl rfl) (pe_xf d_BadRow.xf d_BadRow.no hz hf (pv 5))))) (HdsMix.bare ⟨rfl, by decide, .inl d_DeepError.gl⟩ (fun a oe cls d pn hz hf => (pss_one (ps_set (i := 4) sc__law_exchange_bad.nd rfl (Or.inl rfl) pe_non))) HdsMix.nil)))
      (pss_one (ps_ret (pe_f c__law_int hr (by decide) pass0 rfl (pa_cons (pv 4) (pa_cons (pv 3) pa_nil))))))), ?_⟩
    refine ⟨_, rfl, _, rfl, _, rfl, o, v, u, o1, o2, n, ps, rfl, ho, hv, hl, hn, sh1, sh2, fun h1 h2 => ?_, fun h1 d H' e => ?_, fun h1 h2 d H' e => ?_⟩
    · rcases hb with ⟨z, _⟩ | ⟨_, z, _⟩
      · exact absurd (h1.symm.trans z) (by simp)
      · exact absurd (h2.symm.trans z) (by simp)
    · refine ⟨true, d_BadRow.me, fun _ a ha => ?_, fun z => nomatch z⟩
      have ed : dd = 0 := by
        rcases hb with ⟨_, z⟩ | ⟨z, _, _⟩
        · exact z
        · exact absurd (h1.symm.trans z) (by simp)
      subst ed
      obtain ⟨fs, e1, e2⟩ := e.told
      refine ⟨_, rfl, rfl, rfl, d, fs, _, rfl, e1, e2, ?_⟩
      exact ⟨_, rfl, _, rfl, 0, 0, rfl, q _ e.2.1⟩
    · refine ⟨true, d_BadRow.me, fun _ a ha => ?_, fun z => nomatch z⟩
      have ed : dd = 1 := by
        rcases hb with ⟨z, _⟩ | ⟨_, _, z⟩
        · exact absurd (h1.symm.trans z) (by simp)
        · exact z
      subst ed
      obtain ⟨fs, e1, e2⟩ := e.told
      refine ⟨_, rfl, rfl, rfl, d, fs, _, rfl, e1, e2, ?_⟩
      exact ⟨_, rfl, _, rfl, 1, 1, rfl, q _ e.2.1⟩
end
end D15
set_option maxRecDepth 100000
set_option maxHeartbeats 4000000

namespace D15
open PySem L2
abbrev s__law_refusals : Stmt := (top 38)
theorem sc__law_refusals : FnScope ["order", "aheads", "row", "size", "wrong", "at", "turned"] ["order", "aheads", "row", "size"] (defScope s__law_refusals) := ⟨rfl, rfl, rfl, by decide +kernel, rfl, by decide +kernel, by decide +kernel⟩
theorem swap_cut {l : List Int} {k : Nat} {x z : Int} (h : k + 1 < l.length) (hx : l[k]? = some x) (hz : l[k + 1]? = some z) : l.take k ++ [z, x] ++ l.drop (k + 2) = XM.swapAt l k := by
  obtain ⟨p, q, a, b, e1, e2, hp, ea, eb⟩ := XM.swap_split h
  have ex : a = x := by rw [ea, List.getD_eq_getElem?_getD, hx]; rfl
  have ez : b = z := by rw [eb, List.getD_eq_getElem?_getD, hz]; rfl
  subst ex ez
  rw [e2, e1, ← hp]
  have t1 : (p ++ a :: b :: q).take p.length = p := List.take_left
  have t2 : (p ++ a :: b :: q).drop (p.length + 2) = q := by
    rw [List.drop_append]
    simp
  rw [t1, t2]
  simp
/-- no row, and no even match of n + 2 -/
structure BadO (n : Nat) (qs : List (Int × Int)) (o : Option (List V)) : Prop where
  r : rowB n qs o = false
  u : ∀ ys : List V, ys.length = n + 2 → goodU o (some ys) = false ∧ goodU (some ys) o = false
theorem bad_none (n : Nat) (qs : List (Int × Int)) : BadO n qs none := ⟨rfl, fun ys _ => ⟨rfl, by unfold goodU; simp [eachO]⟩⟩
theorem bad_len {n : Nat} {qs : List (Int × Int)} {xs : List V} (h1 : xs.length ≠ n) (h2 : xs.length ≠ n + 2) : BadO n qs (some xs) := by
  refine ⟨?_, fun ys hy => ⟨?_, ?_⟩⟩
  · have : ¬ ((xs.length : Int) = (n : Int)) := by omega
    simp [rowB, this]
  · have : ¬ (xs.length = ys.length) := by omega
    simp [goodU, this]
  · have : ¬ (ys.length = xs.length) := by omega
    simp [goodU, this]
theorem bad_item {n : Nat} {qs : List (Int × Int)} {xs : List V} (h : ∃ v ∈ xs, ∀ lo hi, numB v lo hi = false) : BadO n qs (some xs) := by
  obtain ⟨v, hv, hb⟩ := h
  have hs : ∀ m : Int, setB xs m = false := fun m => by
    have : (xs.all fun v => numB v 0 (m - 1)) = false := List.all_eq_false.mpr ⟨v, hv, by rw [hb]; exact Bool.false_ne_true⟩
    unfold setB
    rw [this, Bool.false_and]
  have he : eachO (some xs) = false := hs _
  refine ⟨by simp [rowB, hs], fun ys hy => ⟨by unfold goodU; rw [he]; rfl, by unfold goodU; rw [he]; simp⟩⟩
/-- two neighbours of a row the wrong way round -/
theorem bad_turned {n : Nat} {qs : List (Int × Int)} {rs : List Int} {k : Nat} {x z : Int} (rr : Row n rs) (h : k + 1 < n) (hx : rs[k]? = some x) (hz : rs[k + 1]? = some z) (hq : (x, z) ∈ qs) : rowB n qs (some ((XM.swapAt rs k).map V.int)) = false := by
  have hk : k + 1 < rs.length := by rw [rr.l]; exact h
  have nd : (XM.swapAt rs k).Nodup := (XM.swap_perm hk).symm.nodup rr.nd
  have g1 : (XM.swapAt rs k)[k]? = some z := by rw [XM.swap_get hk, if_pos rfl, hz]
  have g2 : (XM.swapAt rs k)[k + 1]? = some x := by rw [XM.swap_get hk, if_neg (by omega), if_pos rfl, hx]
  have i1 := XM.ix_at nd g1
  have i2 := XM.ix_at nd g2
  show (decide _ && (setB _ _ && qs.all fun p => decide (XM.ix (intsOf ((XM.swapAt rs k).map V.int)) p.1 < XM.ix (intsOf ((XM.swapAt rs k).map V.int)) p.2))) = false
  rw [intsOf_map]
  have : (qs.all fun p => decide (XM.ix (XM.swapAt rs k) p.1 < XM.ix (XM.swapAt rs k) p.2)) = false := List.all_eq_false.mpr ⟨(x, z), hq, by
    simp only [decide_eq_true_eq]
    rw [i1, i2]
    omega⟩
  rw [this, Bool.and_false, Bool.and_false]
def spRefusals (CO : Addr) : Sp := fun vs H Q _ => ∃ (o g a p : Addr) (n : Nat) (qs : List (Int × Int)) (as : List Addr) (A : Nat → List Int) (rs : List Int), vs = [.ref o, .ref g, .ref a, .int n] ∧ OrderAt CO H o n qs ∧ Val2 n qs ∧ qs.length ≤ 4000 ∧ AhAt p H g as A n ∧ n ≤ 50 ∧
  H a = some (.lst (rs.map V.int)) ∧ Row n rs ∧ rowB n qs (some (rs.map V.int)) = true ∧ (∀ f : Nat, f < n → ∀ x ∈ A f, (x, (f : Int)) ∈ qs) ∧ ∀ H', Same H H' → Q (.bl true) H'
section
variable {P : Program} {w : World} {K : PySem.W.Frag} {mg : Str → Option Value} {base : Heap} {CO CR CD : Addr}
theorem ok_law_refusals {f : Addr} {fd : FuncData} (F : Fun K "_law_refusals" "_law_refusals" s__law_refusals f fd) (T : Txt K mg CO) (c__law_unlike_bad : CalD P w K mg base CX0 6 "_law_unlike_bad" spUnlikeBad) (c__law_exchange_bad : CalD P w K mg base CX0 6 "_law_exchange_bad" (spExchBad CO)) :
    FnOk P w K mg base CX0 7 f fd ["order", "aheads", "row", "size"] (spRefusals CO) := by
  refine F.ok sc__law_refusals (fun vs H Q E h => ?_) (fun cdv A outer s H vs Q E hr h => ?_)
  · obtain ⟨o, g, a, p, n, qs, as, B, rs, rfl, _⟩ := h
    rfl
  · obtain ⟨o, g, a, p, n, qs, as, B, rs, rfl, ho, hv, hql, hA, hn, ha, rr, wr, so, q⟩ := h
    refine ⟨_, (pss_cons (ps_for PassesOwn.never rfl (pi_seqA (pe_lst (pa_cons pe_non (pa_cons (pe_op op_cat (pv 2) (pe_lst (pa_cons (pv 3) pa_nil))) (pa_cons (pe_op op_cat (pv 2) (pe_lst (pa_cons pe_int pa_nil))) (pa_cons pe_str (pa_cons (pe_op op_cat (pe_lst (pa_cons pe_bl pa_nil)) (pe_slice sl0 (pv 2) (po_some pe_int) po_none)) (pa_cons (pe_lst (pa_cons (pe_lst (pa_cons pe_int pa_nil)) pa_nil)) pa_nil)))))))) (pg_name (i := 4) sc__law_refusals.nd rfl (Or.inl rfl)) (pss_cons (ps_if (PW.pt (pw_or (pt_not (pt_val (pe_f c__law_unlike_bad hr (by decide) pass0 rfl (pa_cons (pv 4) (pa_cons (pe_op op_cat (pv 2) (pe_lst (pa_cons (pv 3) (pa_cons (pe_op op_add (pv 3) pe_int) pa_nil)))) pa_nil))))) (pw_or1 (pt_not (pt_val (pe_f c__law_unlike_bad hr (by decide) pass0 rfl (pa_cons (pe_op op_cat (pv 2) (pe_lst (pa_cons (pv 3) (pa_cons (pe_op op_add (pv 3) pe_int) pa_nil)))) (pa_cons (pv 4) pa_nil)))))))) (pss_one (ps_ret pe_bl)) pss_nil)
      (pss_one (ps_if (PW.pt (pw_or (pt_not (pt_val (pe_f c__law_exchange_bad hr (by decide) pass0 rfl (pa_cons (pv 0) (pa_cons (pv 4) (pa_cons (pv 4) (pa_cons pe_int pa_nil))))))) (pw_or1 (pt_not (pt_val (pe_f c__law_exchange_bad hr (by decide) pass0 rfl (pa_cons (pv 0) (pa_cons (pv 2) (pa_cons (pv 4) (pa_cons pe_int pa_nil)))))))))) (pss_one (ps_ret pe_bl)) pss_nil))))
      (pss_cons (ps_for PassesOwn.never rfl (pi_range1 rfl T.b_range (pa_cons (pe_op op_sub (pv 3) pe_int) pa_nil)) (pg_name (i := 5) sc__law_refusals.nd rfl (Or.inl rfl)) (pss_one (ps_if (pt_cmpR op_inI (pe_ix ix0 (pv 2) (pv 5) (fun _ _ => rfl)) (pe_ix ix0 (pv 1) (pe_ix ix0 (pv 2) (pe_op op_add (pv 5) pe_int) (fun _ _ => rfl)) (fun _ _ => rfl)) (by first | rfl | with_unfolding_all rfl)) (pss_cons (ps_set (i := 6) sc__law_refusals.nd rfl (Or.inl rfl) (pe_op op_cat (pe_op op_cat (pe_slice sl0 (pv 2) po_none (po_some (pv 5))) (pe_lst (pa_cons (pe_ix ix0 (pv 2) (pe_op op_add (pv 5) pe_int) (fun _ _ => rfl)) (pa_cons (pe_ix ix0 (pv 2) (pv 5) (fun _ _ => rfl)) pa_nil)))) (pe_slice sl0 (pv 2) (po_some (pe_op op_add (pv 5) pe_int)) po_none)))
      (pss_one (ps_if (PW.pt (pw_or (pt_not (pt_val (pe_f c__law_exchange_bad hr (by decide) pass0 rfl (pa_cons (pv 0) (pa_cons (pv 6) (pa_cons pe_non (pa_cons pe_int pa_nil))))))) (pw_or1 (pt_not (pt_val (pe_f c__law_exchange_bad hr (by decide) pass0 rfl (pa_cons (pv 0) (pa_cons (pv 2) (pa_cons (pv 6) (pa_cons pe_int pa_nil)))))))))) (pss_one (ps_ret pe_bl)) pss_nil))) pss_nil)))
      (pss_one (ps_ret pe_bl)))), ?_⟩
    have lr := rr.l
    have lv : (rs.map V.int).length = n := by rw [List.length_map, lr]
    -- the wrong ones
    refine ⟨_, rfl, _, rfl, by show 1 ≤ sizeLine; decide, fun z1 hz1 => ⟨a, z1, _, _, rfl, rfl, Same.new hz1 _ _ ha, upd_same, sz_le (by simp; omega), fun p1 hp1 => ?_⟩⟩
    have s1 := (Same.new (o := .lst [.int (n : Nat)]) hz1).trans (Same.new (o := .lst (rs.map V.int ++ [.int (n : Nat)])) hp1)
    have g1 : upd (upd H z1 (.lst [.int (n : Nat)])) p1 (.lst (rs.map V.int ++ [.int (n : Nat)])) p1 = some (.lst (rs.map V.int ++ [.int (n : Nat)])) := upd_same
    generalize upd (upd H z1 (.lst [.int (n : Nat)])) p1 (.lst (rs.map V.int ++ [.int (n : Nat)])) = H1 at *
    refine ⟨_, rfl, by show 1 ≤ sizeLine; decide, fun z2 hz2 => ⟨a, z2, _, _, rfl, rfl, Same.new hz2 _ _ (s1 _ _ ha), upd_same, sz_le (by simp; omega), fun p2 hp2 => ?_⟩⟩
    have s2 := (Same.new (o := .lst [.int 0]) hz2).trans (Same.new (o := .lst (rs.map V.int ++ [.int 0])) hp2)
    have g2 : upd (upd H1 z2 (.lst [.int 0])) p2 (.lst (rs.map V.int ++ [.int 0])) p2 = some (.lst (rs.map V.int ++ [.int 0])) := upd_same
    generalize upd (upd H1 z2 (.lst [.int 0])) p2 (.lst (rs.map V.int ++ [.int 0])) = H2 at *
    have s02 := s1.trans s2
    refine ⟨by show 1 ≤ sizeLine; decide, fun z3 hz3 => ⟨_, rfl, 1, rfl, a, _, rfl, Same.new hz3 _ _ (s02 _ _ ha), fun z4 hz4 => ⟨z3, z4, _, _, rfl, rfl, Same.new hz4 _ _ upd_same, upd_same, ?_, fun p3 hp3 => ?_⟩⟩⟩
    · have := cutV_length (rs.map V.int) (some 1) none
      exact sz_le (by simp at this ⊢; omega)
    generalize hcut : cutV (rs.map V.int) (some 1) none = cut at *
    have lcut : cut.length ≤ n := by
      rw [← hcut]
      have := cutV_length (rs.map V.int) (some 1) none
      omega
    have pcut : ∀ v ∈ cut, ∃ z, v = V.int z := fun v hv => by
      rw [← hcut] at hv
      unfold cutV at hv
      have h2 := List.mem_of_mem_drop (List.mem_of_mem_take hv)
      obtain ⟨z, _, rfl⟩ := List.mem_map.mp h2
      exact ⟨z, rfl⟩
    have s3 := ((Same.new (o := .lst [.bl true]) hz3).trans (Same.new (o := .lst cut) hz4)).trans (Same.new (o := .lst ([.bl true] ++ cut)) hp3)
    have g3 : upd (upd (upd H2 z3 (.lst [.bl true])) z4 (.lst cut)) p3 (.lst ([.bl true] ++ cut)) p3 = some (.lst ([.bl true] ++ cut)) := upd_same
    generalize upd (upd (upd H2 z3 (.lst [.bl true])) z4 (.lst cut)) p3 (.lst ([.bl true] ++ cut)) = H3 at *
    have s03 := s02.trans s3
    refine ⟨by show 1 ≤ sizeLine; decide, fun z5 hz5 => ⟨by show 1 ≤ sizeLine; decide, fun z6 hz6 => ?_⟩⟩
    have s4 := (Same.new (o := .lst [.int 0]) hz5).trans (Same.new (o := .lst [.ref z5]) hz6)
    have g5 := Same.new (o := .lst [.ref z5]) hz6 _ _ (upd_same (H := H3) (a := z5) (o := .lst [.int 0]))
    have g6 : upd (upd H3 z5 (.lst [.int 0])) z6 (.lst [.ref z5]) z6 = some (.lst [.ref z5]) := upd_same
    generalize upd (upd H3 z5 (.lst [.int 0])) z6 (.lst [.ref z5]) = H4 at *
    have s04 := s03.trans s4
    refine ⟨by show 6 ≤ sizeLine; decide, fun L hL => ⟨L, _, rfl, .inl upd_same, fun J G => ?_⟩⟩
    have s5 := Same.new (o := .lst [.non, .ref p1, .ref p2, .str "0", .ref p3, .ref z6]) hL
    have gL : upd H4 L (.lst [.non, .ref p1, .ref p2, .str "0", .ref p3, .ref z6]) L = some (.lst [.non, .ref p1, .ref p2, .str "0", .ref p3, .ref z6]) := upd_same
    have s05 := s04.trans s5
    have hbad : ∀ v ∈ [V.non, .ref p1, .ref p2, .str "0", .ref p3, .ref z6], ∃ u, Sh (upd H4 L (.lst [.non, .ref p1, .ref p2, .str "0", .ref p3, .ref z6])) v u ∧ BadO n qs u := by
      intro v hv
      simp only [List.mem_cons, List.not_mem_nil, or_false] at hv
      have ap1 : ∀ k : Int, rs.map V.int ++ [V.int k] = (rs ++ [k]).map V.int := fun k => by rw [List.map_append]; rfl
      rcases hv with rfl | rfl | rfl | rfl | rfl | rfl
      · exact ⟨none, .no .non rfl, bad_none n qs⟩
      · have h := s5 _ _ (s4 _ _ (s3 _ _ (s2 _ _ g1)))
        rw [ap1] at h
        exact ⟨_, sh_ints (.inl h) (by rw [List.length_append, lr]; simp; omega), bad_len (by rw [List.length_map, List.length_append, lr]; simp) (by rw [List.length_map, List.length_append, lr]; simp)⟩
      · have h := s5 _ _ (s4 _ _ (s3 _ _ g2))
        rw [ap1] at h
        exact ⟨_, sh_ints (.inl h) (by rw [List.length_append, lr]; simp; omega), bad_len (by rw [List.length_map, List.length_append, lr]; simp) (by rw [List.length_map, List.length_append, lr]; simp)⟩
      · exact ⟨none, .no (.str "0") rfl, bad_none n qs⟩
      · refine ⟨_, .yes (.inl (s5 _ _ (s4 _ _ g3))) (fun x hx => ?_) (by simp; omega), bad_item ⟨.bl true, by simp, fun _ _ => rfl⟩⟩
        rcases List.mem_append.mp hx with hx | hx
        · rw [List.mem_singleton] at hx
          subst hx
          exact .bl true
        · obtain ⟨z, rfl⟩ := pcut x hx
          exact .int z
      · refine ⟨_, .yes (.inl (s5 _ _ g6)) (fun x hx => ?_) (by simp), bad_item ⟨.ref z5, by simp, fun _ _ => rfl⟩⟩
        rw [List.mem_singleton] at hx
        subst hx
        exact .sq (.inl (s5 _ _ g5))
    generalize upd H4 L (.lst [.non, .ref p1, .ref p2, .str "0", .ref p3, .ref z6]) = H5 at *
    refine for_it 6 (fun i σ H' => (∃ x4 x5 x6, σ = [some (.ref o), some (.ref g), some (.ref a), some (.int (n : Nat)), x4, x5, x6]) ∧ Same H5 H') ⟨⟨_, _, _, rfl⟩, Same.refl _⟩ (fun i _ H' hi p => G.go i H' ((p.2 _ _ gL).trans gL.symm) hi) (fun _ H' p => G.st H' ((p.2 _ _ gL).trans gL.symm)) (fun i v σ H6 H7 hi p y => ?_) (fun σ H6 p => ?_)
    · obtain ⟨⟨x4, x5, x6, rfl⟩, s6⟩ := p
      obtain ⟨rfl, hx⟩ := G.yl i _ v _ ((s6 _ _ gL).trans gL.symm) y
      obtain ⟨u, shu, bu⟩ := hbad v (mem_at hx)
      have ap2 : rs.map V.int ++ [V.int (n : Nat), V.int ((n : Nat) + 1)] = (rs ++ [(n : Int), (n : Int) + 1]).map V.int := by rw [List.map_append]; rfl
      have l2 : ((rs ++ [(n : Int), (n : Int) + 1]).map V.int).length = n + 2 := by rw [List.length_map, List.length_append, lr]; rfl
      obtain ⟨u1, u2⟩ := bu.u _ l2
      have s06 := s05.trans s6
      refine ⟨_, rfl, _, rfl, _, rfl, _, rfl, _, _, rfl, rfl, by show 2 ≤ sizeLine; decide, fun y1 hy1 => ⟨a, y1, _, _, rfl, rfl, Same.new hy1 _ _ (s06 _ _ ha), upd_same, sz_le (by simp; omega), fun y2 hy2 => ?_⟩⟩
      dsimp only
      rw [ap2]
      have t1 := (Same.new (o := .lst [.int (n : Nat), .int ((n : Nat) + 1)]) hy1).trans (Same.new (o := .lst ((rs ++ [(n : Int), (n : Int) + 1]).map V.int)) hy2)
      refine ⟨v, .ref y2, u, _, rfl, (shu.same s6).same t1, sh_ints (.inl upd_same) (by rw [List.length_append, lr]; simp; omega), u1, fun H8 s8 => ⟨_, rfl, if_f (by simp) ?_⟩⟩
      have s08 := s06.trans (t1.trans s8)
      have s58 := s6.trans (t1.trans s8)
      refine ⟨_, rfl, _, rfl, _, rfl, _, _, rfl, rfl, by show 2 ≤ sizeLine; decide, fun y3 hy3 => ⟨a, y3, _, _, rfl, rfl, Same.new hy3 _ _ (s08 _ _ ha), upd_same, sz_le (by simp; omega), fun y4 hy4 => ?_⟩⟩
      dsimp only
      rw [ap2]
      have t2 := (Same.new (o := .lst [.int (n : Nat), .int ((n : Nat) + 1)]) hy3).trans (Same.new (o := .lst ((rs ++ [(n : Int), (n : Int) + 1]).map V.int)) hy4)
      refine ⟨_, rfl, .ref y4, v, _, u, rfl, sh_ints (.inl upd_same) (by rw [List.length_append, lr]; simp; omega), (shu.same s58).same t2, u2, fun H9 s9 => ⟨_, rfl, if_f (by simp) ?_⟩⟩
      have s09 := s08.trans (t2.trans s9)
      have s59 := s58.trans (t2.trans s9)
      refine ⟨_, rfl, _, rfl, _, rfl, o, v, v, 0, u, u, n, qs, rfl, ho.same s09, hv, hql, by omega, shu.same s59, shu.same s59, .inl ⟨bu.r, rfl⟩, fun Ha sa => ⟨_, rfl, if_f (by simp) ?_⟩⟩
      have s0a := s09.trans sa
      have s5a := s59.trans sa
      refine ⟨_, rfl, _, rfl, _, rfl, o, .ref a, v, 1, _, u, n, qs, rfl, ho.same s0a, hv, hql, by omega, sh_ints (.inl (s0a _ _ ha)) (by omega), shu.same s5a, .inr ⟨wr, bu.r, rfl⟩, fun Hb sb => ⟨_, rfl, if_f (by simp) ?_⟩⟩
      exact ⟨⟨_, _, _, rfl⟩, s5a.trans sb⟩
    · obtain ⟨⟨x4, x5, x6, rfl⟩, s6⟩ := p
      have s06 := s05.trans s6
      refine ⟨_, rfl, _, _, rfl, rfl, _, rfl, by omega, by omega, ?_⟩
      have en : ((n : Int) - 1).toNat = n - 1 := by omega
      rw [en]
      refine for_it (J := Itr 0 (n - 1)) (n - 1) (fun i σ H' => (∃ x4 x5 x6, σ = [some (.ref o), some (.ref g), some (.ref a), some (.int (n : Nat)), x4, x5, x6]) ∧ Same H H') ⟨⟨_, _, _, rfl⟩, s06⟩ (fun _ _ _ hi _ => hi) (fun _ _ _ => Nat.le_refl _) (fun k v σ H7 H8 hk p y => ?_) (fun σ H7 p => ?_)
      · obtain ⟨rfl, rfl⟩ := y
        obtain ⟨⟨x4, x5, x6, rfl⟩, s7⟩ := p
        rw [Int.zero_add]
        have hx1 : rs[k]? = some (rs[k]'(by omega)) := List.getElem?_eq_getElem (by omega)
        have hz1' : rs[k + 1]? = some (rs[k + 1]'(by omega)) := List.getElem?_eq_getElem (by omega)
        generalize rs[k]'(by omega) = x at hx1
        generalize rs[k + 1]'(by omega) = z at hz1'
        have hxv : (rs.map V.int)[k]? = some (.int x) := by rw [List.getElem?_map, hx1]; rfl
        have hzv : (rs.map V.int)[k + 1]? = some (.int z) := by rw [List.getElem?_map, hz1']; rfl
        obtain ⟨b0, b1⟩ := rr.b z (mem_at hz1')
        have ezn : ((z.toNat : Nat) : Int) = z := Int.toNat_of_nonneg b0
        have hA8 : AhAt p H8 g as B n := hA.save s7.save
        obtain ⟨za, hza, hHza⟩ := hA8.get (k := z.toNat) (by omega)
        have ha8 := s7 _ _ ha
        refine ⟨_, rfl, _, rfl, a, _, (k : Nat), _, rfl, rfl, .inl ha8, atI_nat hxv, _, rfl, _, rfl, _, rfl, _, _, rfl, rfl, a, _, (k : Nat) + 1, _, rfl, rfl, .inl ha8, atI_nat (j := k + 1) hzv, g, _, z, _, rfl, rfl, .inl hA8.hg, by rw [← ezn]; exact atI_nat (refs_at hza), za, x, _, rfl, rfl, .inl hHza, _, rfl, ?_⟩
        by_cases hm : x ∈ B z.toNat
        · have hq : (x, z) ∈ qs := by
            have := so z.toNat (by omega) x hm
            rw [ezn] at this
            exact this
          have hbt := bad_turned rr (by omega) hx1 hz1' hq
          refine if_t (by simp [hm]) ?_
          refine ⟨_, rfl, _, rfl, k, rfl, a, _, rfl, ha8, fun c1 hc1 => ?_⟩
          have ec1 : cutV (rs.map V.int) none (some (k : Int)) = (rs.take k).map V.int := by
            rw [cutV_to (by rw [List.length_map]; omega), List.map_take]
          have ec2 : cutV (rs.map V.int) (some ((k : Int) + 2)) none = (rs.drop (k + 2)).map V.int := by
            rw [show ((k : Int) + 2) = ((k + 2 : Nat) : Int) from by omega, cutV_from (by rw [List.length_map]; omega), List.map_drop]
          rw [ec1]
          have r1 := Same.new (o := .lst ((rs.take k).map V.int)) hc1
          refine ⟨_, rfl, _, rfl, _, _, rfl, rfl, a, _, (k : Nat) + 1, _, rfl, rfl, .inl (r1 _ _ ha8), atI_nat (j := k + 1) hzv, _, rfl, _, rfl, a, _, (k : Nat), _, rfl, rfl, .inl (r1 _ _ ha8), atI_nat hxv, by show 2 ≤ sizeLine; decide, fun c2 hc2 => ?_⟩
          have r2 := Same.new (o := .lst [.int z, .int x]) hc2
          refine ⟨c1, c2, _, _, rfl, rfl, r2 _ _ upd_same, upd_same, sz_le (by simp; omega), fun c3 hc3 => ?_⟩
          have r3 := Same.new (o := .lst ((rs.take k).map V.int ++ [.int z, .int x])) hc3
          have r03 := (r1.trans r2).trans r3
          refine ⟨_, rfl, _, rfl, _, _, rfl, rfl, (k : Nat) + 2, rfl, a, _, rfl, r03 _ _ ha8, fun c4 hc4 => ?_⟩
          rw [ec2]
          have r4 := Same.new (o := .lst ((rs.drop (k + 2)).map V.int)) hc4
          refine ⟨c3, c4, _, _, rfl, rfl, r4 _ _ upd_same, upd_same, sz_le (by simp; omega), fun c5 hc5 => ?_⟩
          have r5 := Same.new (o := .lst (((rs.take k).map V.int ++ [.int z, .int x]) ++ (rs.drop (k + 2)).map V.int)) hc5
          have ecat : ((rs.take k).map V.int ++ [.int z, .int x]) ++ (rs.drop (k + 2)).map V.int = (XM.swapAt rs k).map V.int := by
            rw [← swap_cut (by omega) hx1 hz1', List.map_append, List.map_append]
            rfl
          have g5c := upd_same (H := upd (upd (upd (upd H8 c1 (.lst ((rs.take k).map V.int))) c2 (.lst [.int z, .int x])) c3 (.lst ((rs.take k).map V.int ++ [.int z, .int x]))) c4 (.lst ((rs.drop (k + 2)).map V.int))) (a := c5) (o := .lst (((rs.take k).map V.int ++ [.int z, .int x]) ++ (rs.drop (k + 2)).map V.int))
          have r05 := (r03.trans r4).trans r5
          generalize upd (upd (upd (upd (upd H8 c1 (.lst ((rs.take k).map V.int))) c2 (.lst [.int z, .int x])) c3 (.lst ((rs.take k).map V.int ++ [.int z, .int x]))) c4 (.lst ((rs.drop (k + 2)).map V.int))) c5 (.lst (((rs.take k).map V.int ++ [.int z, .int x]) ++ (rs.drop (k + 2)).map V.int)) = H9 at *
          rw [ecat] at g5c
          have s9 := s7.trans r05
          have lsw : (XM.swapAt rs k).length ≤ 4000 := by rw [XM.swap_len]; omega
          refine ⟨_, rfl, _, rfl, o, .ref c5, .non, 0, _, none, n, qs, rfl, ho.same s9, hv, hql, by omega, sh_ints (.inl g5c) lsw, .no .non rfl, .inl ⟨hbt, rfl⟩, fun Ha sa => ⟨_, rfl, if_f (by simp) ?_⟩⟩
          have s9a := s9.trans sa
          refine ⟨_, rfl, _, rfl, _, rfl, o, .ref a, .ref c5, 1, _, _, n, qs, rfl, ho.same s9a, hv, hql, by omega, sh_ints (.inl (s9a _ _ ha)) (by omega), sh_ints (.inl (sa _ _ g5c)) lsw, .inr ⟨wr, hbt, rfl⟩, fun Hb sb => ⟨_, rfl, if_f (by simp) ?_⟩⟩
          exact ⟨⟨_, _, _, rfl⟩, s9a.trans sb⟩
        · exact if_f (by simp [hm]) ⟨⟨_, _, _, rfl⟩, s7⟩
      · obtain ⟨⟨x4, x5, x6, rfl⟩, s7⟩ := p
        exact q _ s7
end
end D15
set_option maxRecDepth 100000
set_option maxHeartbeats 4000000

namespace D15
open PySem L2
abbrev s_law : Stmt := (top 39)
theorem sc_law : FnScope ["script", "pool", "size", "perm", "k", "pairs", "one", "two", "aheads", "order", "row", "other", "third"] ["script"] (defScope s_law) := ⟨rfl, rfl, rfl, by decide +kernel, rfl, by decide +kernel, by decide +kernel⟩
/-- pairs that go up along perm -/
def PS (perm : List Int) (ps : List (Int × Int)) : Prop := ∀ p ∈ ps, ∃ i j : Nat, i < j ∧ perm[i]? = some p.1 ∧ perm[j]? = some p.2
theorem PS.val {perm : List Int} {ps : List (Int × Int)} {n : Nat} (h : PS perm ps) (r : Row n perm) : Val2 n ps := fun p hp => by
  obtain ⟨i, j, _, h1, h2⟩ := h p hp
  have b1 := r.b _ (mem_at h1)
  have b2 := r.b _ (mem_at h2)
  exact ⟨b1.1, b1.2, b2.1, b2.2⟩
theorem PS.up {perm : List Int} {ps : List (Int × Int)} {n : Nat} (h : PS perm ps) (r : Row n perm) : ∀ p ∈ ps, XM.ix perm p.1 < XM.ix perm p.2 := fun p hp => by
  obtain ⟨i, j, hij, h1, h2⟩ := h p hp
  rw [XM.ix_at r.nd h1, XM.ix_at r.nd h2]
  omega
theorem PS.ne {perm : List Int} {ps : List (Int × Int)} {n : Nat} (h : PS perm ps) (r : Row n perm) : ∀ p ∈ ps, p.1 ≠ p.2 := fun p hp e => by
  have := h.up r p hp
  rw [e] at this
  omega
theorem PS.rank {perm : List Int} {ps : List (Int × Int)} {n : Nat} (h : PS perm ps) (r : Row n perm) : ∀ a b : Nat, a < n → b < n → XM.mids (XM.PR ps) n a b → XM.ix perm a < XM.ix perm b :=
  XM.mids_in (S := fun a b => XM.ix perm (a : Int) < XM.ix perm (b : Int)) (fun a b c _ _ _ h1 h2 => by omega) (fun a b _ _ h1 => h.up r _ h1) n (Nat.le_refl _)
theorem out_of (n : Nat) (ds : List Int) (h : ds.length < n) : ∃ e : Nat, e < n ∧ (e : Int) ∉ ds := by
  refine Classical.byContradiction fun hc => ?_
  have hall : ∀ k ∈ (List.range n).map (fun i : Nat => (i : Int)), k ∈ ds := fun k hk => by
    obtain ⟨i, hi, rfl⟩ := List.mem_map.mp hk
    exact Classical.byContradiction fun h2 => hc ⟨i, List.mem_range.mp hi, h2⟩
  have p := perm_of_nodup_sub ((List.range n).map fun i : Nat => (i : Int)) ds (XM.range_nodup n) hall (by simp; omega)
  have := p.length_eq
  simp at this
  omega
theorem ready_ne {A : Nat → List Int} {n : Nat} {perm : List Int} (hA : ∀ f : Nat, f < n → ∀ x ∈ A f, ∃ k : Nat, x = k ∧ k < n ∧ XM.ix perm k < XM.ix perm f) (ds : List Int) (h : ds.length < n) : readyL A n ds ≠ [] := by
  have go : ∀ (m e : Nat), e < n → (e : Int) ∉ ds → (XM.ix perm e).toNat ≤ m → ∃ e : Nat, e < n ∧ okR A ds e = true := by
    intro m
    induction m with
    | zero =>
      intro e he hn hm
      refine ⟨e, he, ?_⟩
      unfold okR
      rw [Bool.and_eq_true, Bool.not_eq_true', decide_eq_false_iff_not, List.all_eq_true]
      refine ⟨hn, fun x hx => ?_⟩
      obtain ⟨k, rfl, _, h2⟩ := hA e he x hx
      have := XM.ix_nonneg perm k
      omega
    | succ m ih =>
      intro e he hn hm
      by_cases hall : ∀ x ∈ A e, x ∈ ds
      · refine ⟨e, he, ?_⟩
        unfold okR
        rw [Bool.and_eq_true, Bool.not_eq_true', decide_eq_false_iff_not, List.all_eq_true]
        exact ⟨hn, fun x hx => decide_eq_true (hall x hx)⟩
      · obtain ⟨x, hx⟩ := Classical.not_forall.mp hall
        obtain ⟨hxA, hxd⟩ := Classical.not_imp.mp hx
        obtain ⟨k, rfl, hk, h2⟩ := hA e he x hxA
        have := XM.ix_nonneg perm k
        exact ih k hk hxd (by omega)
  obtain ⟨e, he, hd⟩ := out_of n ds h
  obtain ⟨e, he, ok⟩ := go _ e he hd (Nat.le_refl _)
  intro z
  have : (e : Int) ∈ readyL A n ds := List.mem_map.mpr ⟨e, List.mem_filter.mpr ⟨List.mem_range.mpr he, ok⟩, rfl⟩
  rw [z] at this
  cases this
theorem row_ok {n : Nat} {ps qs : List (Int × Int)} {A : Nat → List Int} {rs : List Int} (rr : Row n rs) (re : Resp A rs) (has : ∀ e f : Nat, ((e : Int), (f : Int)) ∈ ps → (e : Int) ∈ A f) (vp : Val2 n ps) (vq : Val2 n qs)
    (mq : ∀ e f : Nat, ((e : Int), (f : Int)) ∈ qs ↔ e < n ∧ f < n ∧ XM.mids (XM.PR ps) n e f) : rowB n qs (some (rs.map V.int)) = true := by
  have hm : ∀ x : Nat, x < n → (x : Int) ∈ rs := fun x hx => by
    have := setB_mem rr.set (by rw [List.length_map, rr.l]) x (by omega) (by omega)
    rw [intsOf_map] at this
    exact this
  have key := XM.mids_in (R := XM.PR ps) (S := fun a b => XM.ix rs (a : Int) < XM.ix rs (b : Int)) (n := n) (fun a b c _ _ _ h1 h2 => by omega) (fun a b ha hb h1 => by
    have h2 := has a b h1
    have g := XM.get_ix (hm b hb)
    have h3 := re _ _ g (a : Int) (by rw [Int.toNat_natCast]; exact h2)
    have h4 := XM.ix_take rr.nd h3
    have h5 := XM.ix_nonneg rs (b : Int)
    omega) n (Nat.le_refl _)
  show (decide _ && (setB _ _ && qs.all fun p => decide (XM.ix (intsOf (rs.map V.int)) p.1 < XM.ix (intsOf (rs.map V.int)) p.2))) = true
  rw [intsOf_map, rr.set, List.length_map, rr.l]
  simp only [decide_true, Bool.true_and, List.all_eq_true, decide_eq_true_eq]
  intro p hp
  obtain ⟨b1, b2, b3, b4⟩ := vq p hp
  obtain ⟨x, z⟩ := p
  simp only at b1 b2 b3 b4
  obtain ⟨x, rfl⟩ := Int.eq_ofNat_of_zero_le b1
  obtain ⟨z, rfl⟩ := Int.eq_ofNat_of_zero_le b3
  obtain ⟨h1, h2, h3⟩ := (mq x z).mp hp
  exact key x z h1 h2 h3
theorem Row.put {i : Nat} {pm : List Int} (h : Row i pm) (k : Nat) : Row (i + 1) (pm.take k ++ [(i : Int)] ++ pm.drop k) := by
  have p : (pm.take k ++ [(i : Int)] ++ pm.drop k).Perm ((i : Int) :: pm) := by
    have h1 : (pm.take k ++ [(i : Int)] ++ pm.drop k).Perm ([(i : Int)] ++ pm.take k ++ pm.drop k) := List.Perm.append_right _ List.perm_append_comm
    rw [List.append_assoc [(i : Int)], List.take_append_drop] at h1
    exact h1
  have ni : (i : Int) ∉ pm := fun hm => by
    have := h.b _ hm
    omega
  refine ⟨p.symm.nodup (List.nodup_cons.mpr ⟨ni, h.nd⟩), fun x hx => ?_, by rw [p.length_eq, List.length_cons, h.l]⟩
  rcases List.mem_cons.mp (p.mem_iff.mp hx) with e | e
  · omega
  · have := h.b x e
    omega
theorem Row.rev {n : Nat} {rs : List Int} (h : Row n rs) : Row n rs.reverse := ⟨(List.reverse_perm rs).symm.nodup h.nd, fun x hx => h.b x (List.mem_reverse.mp hx), by rw [List.length_reverse, h.l]⟩
theorem PairsAt.save {p : Addr} {H H' : Hp} {xs ms : List V} {ps : List (Int × Int)} (h : PairsAt H xs ps) (s : Save p H H') (hp : H p = some (.lst ms)) : PairsAt H' xs ps := ⟨h.1, fun i t ht =>
  let ⟨a, e, f, e1, e2, e3⟩ := h.2 i t ht
  ⟨a, e, f, e1, e2, s _ _ (fun z => by rw [z, hp] at e3; cases e3) e3⟩⟩
theorem OrderAt.save {CO p o : Addr} {H H' : Hp} {n : Int} {ms : List V} {ps : List (Int × Int)} (h : OrderAt CO H o n ps) (s : Save p H H') (hp : H p = some (.lst ms)) : OrderAt CO H' o n ps :=
  let ⟨dx, fs, q, xs, h1, h2, h3, h4, h5⟩ := h
  ⟨dx, fs, q, xs, s _ _ (fun z => by rw [z, hp] at h1; cases h1) h1, h2, h3, s _ _ (fun z => by rw [z, hp] at h4; cases h4) h4, h5.save s hp⟩
theorem _root_.L2.Same.made2 {H H' : Hp} {o dx : Addr} {u v : HO} (ho : H o = none) (hdx : H dx = none) (s : Save o (upd (upd H dx v) o u) H') : Same H H' := fun b x e => s b x (ne_of_none e ho) (by
  rw [upd_ne (ne_of_none e ho), upd_ne (ne_of_none e hdx)]
  exact e)
theorem pick10 (k : Int) (h0 : 0 ≤ k) (h1 : k < 10) : ∃ m : Nat, atI [V.int 4, .int 5, .int 3, .int 7, .int 2, .int 6, .int 12, .int 1, .int 0, .int 9] k = some (.int (m : Int)) ∧ m ≤ 12 := by
  have : k = 0 ∨ k = 1 ∨ k = 2 ∨ k = 3 ∨ k = 4 ∨ k = 5 ∨ k = 6 ∨ k = 7 ∨ k = 8 ∨ k = 9 := by omega
  rcases this with rfl | rfl | rfl | rfl | rfl | rfl | rfl | rfl | rfl | rfl
  · exact ⟨4, rfl, by decide⟩
  · exact ⟨5, rfl, by decide⟩
  · exact ⟨3, rfl, by decide⟩
  · exact ⟨7, rfl, by decide⟩
  · exact ⟨2, rfl, by decide⟩
  · exact ⟨6, rfl, by decide⟩
  · exact ⟨12, rfl, by decide⟩
  · exact ⟨1, rfl, by decide⟩
  · exact ⟨0, rfl, by decide⟩
  · exact ⟨9, rfl, by decide⟩
theorem pick6 (k : Int) (h0 : 0 ≤ k) (h1 : k < 6) : ∃ m : Nat, atI [V.int 3, .int 5, .int 1, .int 8, .int 0, .int 4] k = some (.int (m : Int)) ∧ m ≤ 8 := by
  have : k = 0 ∨ k = 1 ∨ k = 2 ∨ k = 3 ∨ k = 4 ∨ k = 5 := by omega
  rcases this with rfl | rfl | rfl | rfl | rfl | rfl
  · exact ⟨3, rfl, by decide⟩
  · exact ⟨5, rfl, by decide⟩
  · exact ⟨1, rfl, by decide⟩
  · exact ⟨8, rfl, by decide⟩
  · exact ⟨0, rfl, by decide⟩
  · exact ⟨4, rfl, by decide⟩
def spLaw (K : PySem.W.Frag) : Sp := fun vs H Q _ => ∃ (a : Addr) (ns : List Int), vs = [.ref a] ∧ SqL K H a (ns.map V.int) ∧ ns.length ≤ 63 ∧ ∀ H', Q (.bl true) H'
section
variable {P : Program} {w : World} {K : PySem.W.Frag} {mg : Str → Option Value} {base : Heap} {CO CR CD : Addr}
theorem ok_law {f : Addr} {fd : FuncData} (F : Fun K "law" "law" s_law f fd) (T : Txt K mg CO) (c__law_pool : CalD P w K mg base CX0 1 "_law_pool" (spPool K)) (c__law_next : CalD P w K mg base CX0 1 "_law_next" spNext) (c__law_aheads : CalD P w K mg base CX0 1 "_law_aheads" spAheads)
    (c_Order : MakD P w K mg base (L2.CX P w) 5 "Order" CO (spOrder CO)) (c__law_row : CalD P w K mg base CX0 3 "_law_row" spLRow) (c__law_walks : CalD P w K mg base CX0 6 "_law_walks" (spWalks CO)) (c__law_refusals : CalD P w K mg base CX0 7 "_law_refusals" (spRefusals CO)) :
    FnOk P w K mg base CX0 8 f fd ["script"] (spLaw K) := by
  refine F.ok sc_law (fun vs H Q E h => ?_) (fun cdv A outer s H vs Q E hr h => ?_)
  · obtain ⟨a, ns, rfl, _⟩ := h
    rfl
  · obtain ⟨a, ns, rfl, ha, hl, q⟩ := h
    refine ⟨_, (pss_cons (ps_set (i := 1) sc_law.nd rfl (Or.inl rfl) (pe_f c__law_pool hr (by decide) pass0 rfl (pa_cons (pv 0) pa_nil)))
      (pss_cons (ps_set (i := 2) sc_law.nd rfl (Or.inl rfl) (pe_ix ix0 (pe_lst (pa_cons pe_int (pa_cons pe_int (pa_cons pe_int (pa_cons pe_int (pa_cons pe_int (pa_cons pe_int (pa_cons pe_int (pa_cons pe_int (pa_cons pe_int (pa_cons pe_int pa_nil))))))))))) (pe_f c__law_next hr (by decide) pass0 rfl (pa_cons (pv 1) (pa_cons pe_int pa_nil))) (fun _ _ => rfl)))
      (pss_cons (ps_set (i := 3) sc_law.nd rfl (Or.inl rfl) (pe_lst pa_nil))
      (pss_cons (ps_for PassesOwn.never rfl (pi_range1 rfl T.b_range (pa_cons (pv 2) pa_nil)) (pg_name (i := 4) sc_law.nd rfl (Or.inl rfl)) (pss_one (ps_expr (pe_bm PySem.F.plainAttrs_list PySem.F.slot_list_insert PySem.F.type_list_insert mt_insert (pv 3) (pa_cons (pe_f c__law_next hr (by decide) pass0 rfl (pa_cons (pv 1) (pa_cons (pe_op op_add (pv 4) pe_int) pa_nil))) (pa_cons (pv 4) pa_nil))))))
      (pss_cons (ps_set (i := 5) sc_law.nd rfl (Or.inl rfl) (pe_lst pa_nil))
      (pss_cons (ps_if (pt_cmpR op_gt (pv 2) pe_int (nomark _)) (pss_one (ps_for PassesOwn.never rfl (pi_range1 rfl T.b_range (pa_cons (pe_ix ix0 (pe_lst (pa_cons pe_int (pa_cons pe_int (pa_cons pe_int (pa_cons pe_int (pa_cons pe_int (pa_cons pe_int pa_nil))))))) (pe_f c__law_next hr (by decide) pass0 rfl (pa_cons (pv 1) (pa_cons pe_int pa_nil))) (fun _ _ => rfl)) pa_nil)) (pg_name (i := 4) sc_law.nd rfl (Or.inl rfl)) (pss_cons (ps_set (i := 6) sc_law.nd rfl (Or.inl rfl) (pe_f c__law_next hr (by decide) pass0 rfl (pa_cons (pv 1) (pa_cons (pv 2) pa_nil))))
      (pss_cons (ps_set (i := 7) sc_law.nd rfl (Or.inl rfl) (pe_f c__law_next hr (by decide) pass0 rfl (pa_cons (pv 1) (pa_cons (pe_op op_sub (pv 2) pe_int) pa_nil))))
      (pss_cons (ps_if (pt_cmpR op_ge (pv 7) (pv 6) (nomark _)) (pss_one (ps_set (i := 7) sc_law.nd rfl (Or.inl rfl) (pe_op op_add (pv 7) pe_int))) pss_nil)
      (pss_one (ps_expr (pe_bm PySem.F.plainAttrs_list PySem.F.slot_list_append PySem.F.type_list_append mt_append (pv 5) (pa_cons (pe_tup (pa_cons (pe_ix ix0 (pv 3) (pe_callB (call_min2 rfl) (by rfl) T.b_min (by decide +kernel) (pa_cons (pv 6) (pa_cons (pv 7) pa_nil))) (fun _ _ => rfl)) (pa_cons (pe_ix ix0 (pv 3) (pe_callB (call_max2 rfl) (by rfl) T.b_max (by decide +kernel) (pa_cons (pv 6) (pa_cons (pv 7) pa_nil))) (fun _ _ => rfl)) pa_nil))) pa_nil))))))))) pss_nil)
      (pss_cons (ps_set (i := 8) sc_law.nd rfl (Or.inl rfl) (pe_f c__law_aheads hr (by decide) pass0 rfl (pa_cons (pv 2) (pa_cons (pv 5) pa_nil))))
      (pss_cons (ps_set (i := 9) sc_law.nd rfl (Or.inl rfl) (pe_new c_Order hr (by decide) passL rfl (pa_cons (pv 2) (pa_cons (pe_callTy c_lst0 (by rfl) T.b_list (by decide +kernel) (pa_cons (pv 5) pa_nil)) pa_nil))))
      (pss_cons (ps_set (i := 10) sc_law.nd rfl (Or.inl rfl) (pe_f c__law_row hr (by decide) pass0 rfl (pa_cons (pv 1) (pa_cons (pv 8) (pa_cons pe_bl pa_nil)))))
      (pss_cons (ps_set (i := 11) sc_law.nd rfl (Or.inl rfl) (pe_f c__law_row hr (by decide) pass0 rfl (pa_cons (pv 1) (pa_cons (pv 8) (pa_cons pe_bl pa_nil)))))
      (pss_cons (ps_if (PW.pt (pw_or (pt_not (pt_val (pe_f c__law_walks hr (by decide) pass0 rfl (pa_cons (pv 9) (pa_cons (pv 8) (pa_cons (pv 10) (pa_cons (pv 11) pa_nil))))))) (pw_or1 (pt_not (pt_val (pe_f c__law_walks hr (by decide) pass0 rfl (pa_cons (pv 9) (pa_cons (pv 8) (pa_cons (pv 11) (pa_cons (pv 10) pa_nil)))))))))) (pss_one (ps_ret pe_bl)) pss_nil)
      (pss_cons (ps_if (pt_not (pt_val (pe_f c__law_walks hr (by decide) pass0 rfl (pa_cons (pv 9) (pa_cons (pv 8) (pa_cons (pv 10) (pa_cons (pv 10) pa_nil))))))) (pss_one (ps_ret pe_bl)) pss_nil)
      (pss_cons (ps_set (i := 12) sc_law.nd rfl (Or.inl rfl) (pe_f c__law_row hr (by decide) pass0 rfl (pa_cons (pv 1) (pa_cons (pv 8) (pa_cons pe_bl pa_nil)))))
      (pss_cons (ps_if (PW.pt (pw_or (pt_not (pt_val (pe_f c__law_walks hr (by decide) pass0 rfl (pa_cons (pv 9) (pa_cons (pv 8) (pa_cons (pv 12) (pa_cons (pv 11) pa_nil))))))) (pw_or1 (pt_not (pt_val (pe_f c__law_walks hr (by decide) pass0 rfl (pa_cons (pe_new c_Order hr (by decide) passL rfl (pa_cons (pv 2) (pa_cons (pe_lst pa_nil) pa_nil))) (pa_cons (pe_op op_rep (pe_lst (pa_cons (pe_lst pa_nil) pa_nil)) (pv 2)) (pa_cons (pv 10) (pa_cons (pe_revL (pv 12)) pa_nil)))))))))) (pss_one (ps_ret pe_bl)) pss_nil)
      (pss_one (ps_ret (pe_f c__law_refusals hr (by decide) pass0 rfl (pa_cons (pv 9) (pa_cons (pv 8) (pa_cons (pv 10) (pa_cons (pv 2) pa_nil))))))))))))))))))))), ?_⟩
    refine ⟨_, rfl, a, ns, rfl, ha, hl, fun p ms0 H1 s1 hp0 hp1 => ?_⟩
    refine ⟨by show 10 ≤ sizeLine; decide, fun L hL => ⟨_, rfl, p, ms0, 10, rfl, Same.new hL _ _ hp1, by decide, fun k ms2 H2 k0 k1 sv2 fr2 hp2 => ?_⟩⟩
    obtain ⟨n, hn, hn12⟩ := pick10 k k0 k1
    have nL : L ≠ p := fun e => by rw [e, hp1] at hL; cases hL
    refine ⟨L, _, k, _, rfl, rfl, .inl (sv2 _ _ nL upd_same), hn, ?_⟩
    refine ⟨by show 0 ≤ sizeLine; decide, fun m hm => ?_⟩
    have nm : m ≠ p := fun e => by rw [e, hp2] at hm; cases hm
    have hp2m := Same.new (o := .lst []) hm _ _ hp2
    refine ⟨_, rfl, _, rfl, by omega, by omega, ?_⟩
    rw [Int.toNat_natCast]
    refine for_it n (fun i σ H' => (∃ x4, σ = [some (.ref a), some (.ref p), some (.int (n : Nat)), some (.ref m), x4, none, none, none, none, none, none, none, none]) ∧ (∃ ms : List Int, H' p = some (.lst (ms.map V.int))) ∧ ∃ pm : List Int, H' m = some (.lst (pm.map V.int)) ∧ Row i pm)
      ⟨⟨_, rfl⟩, ⟨_, hp2m⟩, [], upd_same, ⟨List.nodup_nil, fun _ h => absurd h List.not_mem_nil, rfl⟩⟩ (fun _ _ _ hi _ => hi) (fun _ _ _ => Nat.le_refl _) (fun i v σ H3 H4 hi pv y => ?_) (fun σ H3 pv => ?_)
    · obtain ⟨rfl, rfl⟩ := y
      obtain ⟨⟨x4, rfl⟩, ⟨ms, hpp⟩, pm, hmm, R⟩ := pv
      rw [Int.zero_add]
      refine ⟨_, rfl, tyL hmm, _, rfl, _, rfl, _, _, rfl, rfl, p, ms, _, rfl, hpp, by omega, fun k ms5 H5 k0 k1 sv5 fr5 hp5 => ⟨_, rfl, m, _, k, .int (i : Nat), rfl, rfl, sv5 _ _ nm hmm, ?_, k0, by omega, ?_⟩⟩
      · rw [List.length_map, R.l]
        exact sz_small (by omega)
      · refine ⟨⟨_, rfl⟩, ⟨ms5, by rw [upd_ne (Ne.symm nm)]; exact hp5⟩, _, ?_, R.put k.toNat⟩
        rw [upd_same]
        simp [List.map_take, List.map_drop]
    obtain ⟨⟨x4, rfl⟩, ⟨ms3, hp3⟩, pm, hm3, Rpm⟩ := pv
    refine ⟨by show 0 ≤ sizeLine; decide, fun r hrr => ?_⟩
    have nr : r ≠ p := fun e => by rw [e, hp3] at hrr; cases hrr
    have s3r := Same.new (o := .lst []) hrr
    have hr3 : upd H3 r (.lst []) r = some (.lst []) := upd_same
    refine ⟨_, rfl, _, _, rfl, rfl, _, rfl, ?_⟩
    rcases Nat.lt_or_ge 1 n with hn1 | hn1
    case' inl =>
      refine if_t (by simp; omega) ⟨by show 6 ≤ sizeLine; decide, fun L2 hL2 => ⟨_, rfl, p, ms3, 6, rfl, Same.new hL2 _ _ (s3r _ _ hp3), by decide, fun k2 ms4 H4 k20 k21 sv4 fr4 hp4 => ?_⟩⟩
      obtain ⟨c, hc, hc8⟩ := pick6 k2 k20 k21
      have nL2 : L2 ≠ p := fun e => by rw [e, s3r _ _ hp3] at hL2; cases hL2
      have nL2r : r ≠ L2 := fun e => by rw [← e, hr3] at hL2; cases hL2
      have nL2m : m ≠ L2 := ne_of_none (s3r _ _ hm3) hL2
      refine ⟨L2, _, k2, _, rfl, rfl, .inl (sv4 _ _ nL2 upd_same), hc, _, rfl, by omega, by omega, ?_⟩
      rw [Int.toNat_natCast]
      refine for_it c (fun i σ H' => (∃ x4 x6 x7, σ = [some (.ref a), some (.ref p), some (.int (n : Nat)), some (.ref m), x4, some (.ref r), x6, x7, none, none, none, none, none]) ∧ (∃ ms : List Int, H' p = some (.lst (ms.map V.int))) ∧ H' m = some (.lst (pm.map V.int)) ∧ ∃ xs ps, H' r = some (.lst xs) ∧ PairsAt H' xs ps ∧ PS pm ps ∧ ps.length = i)
        ⟨⟨_, _, _, rfl⟩, ⟨_, hp4⟩, sv4 _ _ nm (by rw [upd_ne nL2m]; exact s3r _ _ hm3), [], [], sv4 _ _ nr (by rw [upd_ne nL2r]; exact hr3), ⟨rfl, fun i t h => by cases h⟩, fun _ h => absurd h List.not_mem_nil, rfl⟩ (fun _ _ _ hi _ => hi) (fun _ _ _ => Nat.le_refl _) (fun i v σ H5 H6 hi pv y => ?step) (fun σ H4 pv => ?rest)
    case step =>
      obtain ⟨rfl, rfl⟩ := y
      obtain ⟨⟨x4, x6, x7, rfl⟩, ⟨ms, hpp⟩, hmm, xs, ps, hrr2, hpa, hps, hlen⟩ := pv
      refine ⟨_, rfl, _, rfl, p, ms, (n : Nat), rfl, hpp, by omega, fun o1 ms7 H7 o10 o11 sv7 fr7 hp7 => ?_⟩
      refine ⟨_, rfl, _, rfl, _, _, rfl, rfl, p, ms7, _, rfl, hp7, by omega, fun t1 ms8 H8 t10 t11 sv8 fr8 hp8 => ?_⟩
      have hm8 := sv8 _ _ nm (sv7 _ _ nm hmm)
      have hr8 := sv8 _ _ nr (sv7 _ _ nr hrr2)
      have hpa8 := (hpa.save sv7 hpp).save sv8 hp7
      have lpm := Rpm.l
      have pick : ∀ t2 : Int, 0 ≤ t2 → t2 < n → t2 ≠ o1 → ∃ (i j : Nat) (e f : Int), i < j ∧ (if t2 < o1 then t2 else o1) = (i : Int) ∧ (if t2 > o1 then t2 else o1) = (j : Int) ∧ pm[i]? = some e ∧ pm[j]? = some f := fun t2 h0 h1 hne => by
        obtain ⟨t, rfl⟩ := Int.eq_ofNat_of_zero_le h0
        obtain ⟨o, rfl⟩ := Int.eq_ofNat_of_zero_le o10
        by_cases hlt : (t : Int) < (o : Int)
        · exact ⟨t, o, _, _, by omega, by rw [if_pos hlt], by rw [if_neg (by omega)], List.getElem?_eq_getElem (by omega), List.getElem?_eq_getElem (by omega)⟩
        · exact ⟨o, t, _, _, by omega, by rw [if_neg hlt], by rw [if_pos (by omega)], List.getElem?_eq_getElem (by omega), List.getElem?_eq_getElem (by omega)⟩
      refine ⟨_, rfl, _, rfl, _, _, rfl, rfl, _, rfl, ?_⟩
      rcases Int.lt_or_le t1 o1 with hto | hto
      case' inl =>
        refine if_f (by simp; omega) ?_
        obtain ⟨i1, j1, e, f, hij, emin, emax, he, hf⟩ := pick t1 (by omega) (by omega) (by omega)
      case' inr =>
        refine if_t (by simp; omega) ⟨_, rfl, _, _, rfl, rfl, ?_⟩
        obtain ⟨i1, j1, e, f, hij, emin, emax, he, hf⟩ := pick (t1 + 1) (by omega) (by omega) (by omega)
      all_goals
        have hev : (pm.map V.int)[i1]? = some (.int e) := by rw [List.getElem?_map, he]; rfl
        have hfv : (pm.map V.int)[j1]? = some (.int f) := by rw [List.getElem?_map, hf]; rfl
        refine ⟨_, rfl, tyL hr8, _, rfl, _, rfl, _, rfl, _, _, rfl, m, _, _, .int e, rfl, rfl, .inl hm8, by rw [emin]; exact atI_nat hev, _, rfl, _, rfl, _, rfl, _, _, rfl, m, _, _, .int f, rfl, rfl, .inl hm8, by rw [emax]; exact atI_nat hfv, by show 2 ≤ sizeLine; decide, fun t ht => ?_⟩
        have st := Same.new (o := .tup [.int e, .int f]) ht
        have hr9 := st _ _ hr8
        have nrm : m ≠ r := fun z => by
          have h1 : H3 m ≠ none := by rw [hm3]; exact fun h => nomatch h
          exact h1 (z ▸ hrr)
        have hsn := (hpa8.snoc (e := e) (f := f) ht).upd (b := r) (u := .lst (xs ++ [.ref t])) (fun ys h => by rw [hr9] at h; cases h)
        refine ⟨r, xs, .ref t, rfl, rfl, hr9, by rw [hpa.1, hlen]; exact sz_small (by omega), ⟨_, _, _, rfl⟩, ⟨ms8, by rw [upd_ne (Ne.symm nr)]; exact st _ _ hp8⟩, by rw [upd_ne nrm]; exact st _ _ hm8, xs ++ [.ref t], ps ++ [(e, f)], upd_same, hsn, fun q hq => ?_, by rw [List.length_append, hlen]; rfl⟩
        rcases List.mem_append.mp hq with hq | hq
        · exact hps q hq
        · rw [List.mem_singleton] at hq
          subst hq
          exact ⟨i1, j1, hij, he, hf⟩
    case' rest =>
      obtain ⟨⟨x4, x6, x7, rfl⟩, ⟨ms4, hp4⟩, _, xs, ps, hr4, hpa, hps, hlen⟩ := pv
      have hlen8 : ps.length ≤ 8 := by omega
    case' inr =>
      refine if_f (by simp; omega) ?_
      obtain ⟨ms4, hp4⟩ : ∃ ms : List Int, upd H3 r (.lst []) p = some (.lst (ms.map V.int)) := ⟨ms3, s3r _ _ hp3⟩
      obtain ⟨xs, ps, hr4, hpa, hps, hlen8⟩ : ∃ xs ps, upd H3 r (.lst []) r = some (.lst xs) ∧ PairsAt (upd H3 r (.lst [])) xs ps ∧ PS pm ps ∧ ps.length ≤ 8 := ⟨[], [], hr3, ⟨rfl, fun i t h => by cases h⟩, fun _ h => absurd h List.not_mem_nil, Nat.zero_le _⟩
      generalize upd H3 r (.lst []) = H4 at *
    all_goals
      have vps := hps.val Rpm
      have rank := hps.rank Rpm
      refine ⟨_, rfl, _, rfl, r, xs, ps, n, rfl, hr4, hpa, vps, by omega, fun g as B H5 s5 hg5 fr5 g5 l5 at5 ai has => ?_⟩
      have hgp : g ≠ p := fun e => by rw [e, hp4] at hg5; cases hg5
      have nas : ∀ b ∈ as, b ≠ p := fun b hb e => by
        have h5 := fr5 b hb
        rw [e, hp4] at h5
        cases h5
      have hA5 : AhAt p H5 g as B n := ⟨g5, l5, hgp, nas, at5⟩
      have hp5 := s5 _ _ hp4
      have rk : ∀ f : Nat, f < n → ∀ x ∈ B f, ∃ k : Nat, x = k ∧ k < n ∧ XM.ix pm k < XM.ix pm f := fun f hf x hx =>
        let ⟨k, e, hk, hm⟩ := (ai f hf).2 x hx
        ⟨k, e, hk, rank k f hk hf hm⟩
      refine ⟨_, rfl, _, rfl, r, _, rfl, .inl (s5 _ _ hr4), fun l hl o dx ho hdx ndx => ?_⟩
      have sl := Same.new (o := .lst xs) hl
      have so2 : Same (upd H5 l (.lst xs)) (upd (upd (upd H5 l (.lst xs)) dx (.own o)) o (.ins CO dx [])) := (Same.new hdx).mut ho
      refine ⟨o, dx, l, xs, ps, n, rfl, upd_same, so2 _ _ upd_same, ((hpa.same s5).same sl).same so2, vps, hps.ne Rpm, by omega, by omega, fun k hk hm => by
        have := rank k k hk hk hm
        omega, fun qs H6 sv6 oa vq lq mq => ⟨rfl, ?_⟩⟩
      have s56 : Same H5 H6 := sl.trans (Same.made2 ho hdx sv6)
      have hp6 := s56 _ _ hp5
      have hA6 := hA5.save s56.save
      have hne : ∀ ds : List Int, ds.length < n → readyL B n ds ≠ [] := fun ds hds => ready_ne rk ds hds
      refine ⟨_, rfl, _, rfl, p, g, false, as, B, n, ms4, rfl, hA6, hp6, by omega, hne, fun ra rs msa Ha sva fra gra pa nda ba la rea => ?_⟩
      have nra : ra ≠ p := fun e => by rw [e, hp6] at fra; cases fra
      have rowR : Row n rs := ⟨nda, ba, la⟩
      have oaa := oa.save sva hp6
      have hAa := hA6.save sva
      refine ⟨_, rfl, _, rfl, p, g, true, as, B, n, msa, rfl, hAa, pa, by omega, hne, fun rb os msb Hb svb frb grb pb ndb bb lb reb => ?_⟩
      have nrb : rb ≠ p := fun e => by rw [e, pa] at frb; cases frb
      have rowO : Row n os := ⟨ndb, bb, lb⟩
      have oab := oaa.save svb pa
      have hAb := hAa.save svb
      have grab := svb _ _ nra gra
      have wr := row_ok rowR rea has vps vq mq
      have wo := row_ok rowO reb has vps vq mq
      refine ⟨_, rfl, _, rfl, _, rfl, _, rfl, o, g, ra, rb, p, n, qs, as, B, rs, os, rfl, oab, vq, lq, hAb, by omega, grab, grb, rowR, rowO, wr, wo, reb, fun Hc sc => ⟨_, rfl, if_f (by simp) ?_⟩⟩
      refine ⟨_, rfl, _, rfl, _, rfl, _, rfl, o, g, rb, ra, p, n, qs, as, B, os, rs, rfl, oab.same sc, vq, lq, hAb.save sc.save, by omega, sc _ _ grb, sc _ _ grab, rowO, rowR, wo, wr, rea, fun Hd sd => ⟨_, rfl, if_f (by simp) ?_⟩⟩
      have sbd := sc.trans sd
      refine ⟨_, rfl, _, rfl, _, rfl, _, rfl, o, g, ra, ra, p, n, qs, as, B, rs, rs, rfl, oab.same sbd, vq, lq, hAb.save sbd.save, by omega, sbd _ _ grab, sbd _ _ grab, rowR, rowR, wr, wr, rea, fun He se => ⟨_, rfl, if_f (by simp) ?_⟩⟩
      have sbe := sbd.trans se
      have hpe := sbe _ _ pb
      refine ⟨_, rfl, _, rfl, p, g, false, as, B, n, msb, rfl, hAb.save sbe.save, hpe, by omega, hne, fun rc ts msc Hf svf frc grc pc ndc bc lc rec => ?_⟩
      have nrc : rc ≠ p := fun e => by rw [e, hpe] at frc; cases frc
      have rowT : Row n ts := ⟨ndc, bc, lc⟩
      have wt := row_ok rowT rec has vps vq mq
      have oaf := (oab.same sbe).save svf hpe
      have hAf := (hAb.save sbe.save).save svf
      have graf := svf _ _ nra (sbe _ _ grab)
      have grbf := svf _ _ nrb (sbe _ _ grb)
      refine ⟨_, rfl, _, rfl, _, rfl, _, rfl, o, g, rc, rb, p, n, qs, as, B, ts, os, rfl, oaf, vq, lq, hAf, by omega, grc, grbf, rowT, rowO, wt, wo, reb, fun Hg sg => ⟨_, rfl, if_f (by simp) ?_⟩⟩
      -- Order(size, [])
      refine ⟨_, rfl, by show 0 ≤ sizeLine; decide, fun l2 hl2 o2 dx2 ho2 hdx2 ndx2 => ?_⟩
      have sl2 := Same.new (o := .lst []) hl2
      have so3 : Same (upd Hg l2 (.lst [])) (upd (upd (upd Hg l2 (.lst [])) dx2 (.own o2)) o2 (.ins CO dx2 [])) := (Same.new hdx2).mut ho2
      have no_mids : ∀ a b : Nat, a < n → b < n → XM.mids (XM.PR []) n a b → False := XM.mids_in (S := fun _ _ => False) (fun _ _ _ _ _ _ h _ => h) (fun a b _ _ h => absurd h List.not_mem_nil) n (Nat.le_refl _)
      refine ⟨o2, dx2, l2, [], [], n, rfl, upd_same, so3 _ _ upd_same, ⟨rfl, fun i t h => by cases h⟩, fun _ h => absurd h List.not_mem_nil, fun _ h => absurd h List.not_mem_nil, Nat.zero_le _, by omega, fun k hk hm => no_mids k k hk hk hm, fun qs2 Hh sv7 oa2 vq2 lq2 mq2 => ⟨rfl, ?_⟩⟩
      have sgh : Same Hg Hh := sl2.trans (Same.made2 ho2 hdx2 sv7)
      refine ⟨by show 0 ≤ sizeLine; decide, fun z hz => ⟨by show 1 ≤ sizeLine; decide, fun z2 hz2 => ⟨_, rfl, z2, n, _, rfl, rfl, upd_same, by omega, by omega, by show 1 * ((n : Int).toNat) ≤ sizeLine; rw [Int.toNat_natCast]; exact sz_le (by omega), fun gg hgg => ?_⟩⟩⟩
      have e0 : (List.replicate ((n : Int).toNat) [V.ref z]).flatten = (List.replicate n z).map V.ref := by
        rw [Int.toNat_natCast, List.map_replicate]
        exact List.flatten_replicate_singleton
      rw [e0]
      have sz1 := Same.new (o := .lst []) hz
      have sz2 := Same.new (o := .lst [.ref z]) hz2
      have sz3 := Same.new (o := .lst ((List.replicate n z).map V.ref)) hgg
      have hzz := sz3 _ _ (sz2 _ _ (upd_same (H := Hh) (a := z) (o := .lst [])))
      have hggs := upd_same (H := upd (upd Hh z (.lst [])) z2 (.lst [.ref z])) (a := gg) (o := .lst ((List.replicate n z).map V.ref))
      have shk := (sz1.trans sz2).trans sz3
      have sgk := sgh.trans shk
      have hpg := sg _ _ pc
      have hph := sgh _ _ hpg
      have nzp : z ≠ p := fun e => by rw [e, hph] at hz; cases hz
      have nggp : gg ≠ p := fun e => by
        have := sz2 _ _ (sz1 _ _ hph)
        rw [e, this] at hgg
        cases hgg
      generalize upd (upd (upd Hh z (.lst [])) z2 (.lst [.ref z])) gg (.lst ((List.replicate n z).map V.ref)) = Hk at *
      have hAk : AhAt p Hk gg (List.replicate n z) (fun _ => []) n := ⟨hggs, List.length_replicate, nggp, fun b hb => by
        rw [(List.mem_replicate.mp hb).2]
        exact nzp, fun k b hb => by
        rw [List.getElem?_replicate] at hb
        split at hb
        · cases hb
          exact hzz
        · cases hb⟩
      have sfk := sg.trans sgk
      refine ⟨_, rfl, _, rfl, rc, _, rfl, SqL.of (sfk _ _ grc), fun rv hrv => ?_⟩
      rw [← List.map_reverse]
      have sv9 := Same.new (o := .lst (ts.reverse.map V.int)) hrv
      have reT : Resp (fun _ => []) ts.reverse := fun _ _ _ _ h => absurd h List.not_mem_nil
      have reR : Resp (fun _ => []) rs := fun _ _ _ _ h => absurd h List.not_mem_nil
      have vn : Val2 n [] := fun _ h => absurd h List.not_mem_nil
      have hasn : ∀ e f : Nat, ((e : Int), (f : Int)) ∈ ([] : List (Int × Int)) → (e : Int) ∈ (fun _ : Nat => ([] : List Int)) f := fun _ _ h => absurd h List.not_mem_nil
      have w2r := row_ok rowR reR hasn vn vq2 mq2
      have w2t := row_ok rowT.rev reT hasn vn vq2 mq2
      refine ⟨o2, gg, ra, rv, p, n, qs2, _, _, rs, ts.reverse, rfl, (oa2.same shk).same sv9, vq2, lq2, hAk.save sv9.save, by omega, sv9 _ _ (sfk _ _ graf), upd_same, rowR, rowT.rev, w2r, w2t, reT, fun Hm sm => ⟨_, rfl, if_f (by simp) ?_⟩⟩
      have sfm := (sfk.trans sv9).trans sm
      exact ⟨_, rfl, _, rfl, _, rfl, _, rfl, o, g, ra, p, n, qs, as, B, rs, rfl, oaf.same sfm, vq, lq, hAf.save sfm.save, by omega, sfm _ _ graf, rowR, wr, fun f hf x hx => by
        obtain ⟨k, rfl, hk, hm⟩ := (ai f hf).2 x hx
        exact (mq k f).mpr ⟨hk, hf, hm⟩, fun H' _ => q H'⟩
end
end D15
set_option maxRecDepth 100000
set_option maxHeartbeats 4000000

namespace D15
open PySem L2
abbrev s_BadOrder___init__ : Stmt := (inClass (top 4) 0)
theorem sc_BadOrder___init__ : FnScope ["self", "name"] ["self", "name"] (defScope s_BadOrder___init__) := ⟨rfl, rfl, rfl, by decide +kernel, rfl, by decide +kernel, by decide +kernel⟩
section
variable {P : Program} {w : World} {K : PySem.W.Frag} {mg : Str → Option Value} {base : Heap} {CO CR CD : Addr}
theorem ok_badorder {f g : Addr} {fd fdD : FuncData} {mc : Value} (F : Fun K "__init__" "BadOrder.__init__" s_BadOrder___init__ f fd) (TR : ErC K CR) (n1 : PySem.W.findIn K (.ref CR) "_told" = some none) (n2 : PySem.W.findIn K (.ref CR) "name" = some none)
    (FD : Fun K "__init__" "DeepError.__init__" s_DeepError___init__ g fdD) (rD : ClX.CRead K CD mc) (cD : ClX.CVal K CD mc "__init__" (.ref g) (.ref g)) (kD : PySem.W.keepIn K (.ref g) = true) (bD : Binds K fdD ["self", "told"] []) (gD : mg "DeepError" = some (.ref CD)) :
    FnOk P w K mg base CX0 2 f fd ["self", "name"] (spErr CR "name") := by
  have G1 : FnOk P w K mg base CX0 1 g fdD ["self", "told"] (spDeep K) := ok_deep FD
  refine F.ok sc_BadOrder___init__ (fun vs H Q E h => ?_) (fun cdv A outer s H vs Q E hr h => ?_)
  · obtain ⟨a, x, rfl, _⟩ := h
    rfl
  · obtain ⟨a, x, rfl, ha, q⟩ := h
    refine ⟨_, (pss_cons (ps_expr (pe_cdef rD cD G1 hr kD bD .nil pass0 rfl gD (pa_cons (pv 0) (pa_cons (pv 1) pa_nil))))
      (pss_one (ps_erset (pv 0) (pv 1)))), ?_⟩
    refine ⟨_, rfl, _, rfl, a, CR, x, rfl, TR, n1, ha, fun dx hd ne => ?_⟩
    exact ⟨_, rfl, _, rfl, a, CR, rfl, TR, n2, .inr ⟨dx, _, upd_same, by rw [upd_ne ne, upd_same], by simp, q dx hd ne⟩⟩
end
theorem all_mk {l : PySem.W.OpenLaw} {w : World} {K : PySem.W.Frag} {h : Heap} {mg : Str → Option Value} {fa CD CR CB CO : Addr} (X : K.In h) (G : h.Ns mainGlobals mg) (hfa : mg "law" = some (.ref fa))
    {f0 : Addr} {od0 an0 : Option Addr} {sl0 : Array (Option Value)} {oc0 kV0 dc0 pm0 cd0 ct0 : Value}
    {f1 : Addr} {od1 an1 : Option Addr} {sl1 : Array (Option Value)} {oc1 kV1 dc1 pm1 cd1 ct1 : Value}
    {f2 : Addr} {od2 an2 : Option Addr} {sl2 : Array (Option Value)} {oc2 kV2 dc2 pm2 cd2 ct2 : Value}
    {f3 : Addr} {od3 an3 : Option Addr} {sl3 : Array (Option Value)} {oc3 kV3 dc3 pm3 cd3 ct3 : Value}
    {f4 : Addr} {od4 an4 : Option Addr} {sl4 : Array (Option Value)} {oc4 kV4 dc4 pm4 cd4 ct4 : Value}
    {f5 : Addr} {od5 an5 : Option Addr} {sl5 : Array (Option Value)} {oc5 kV5 dc5 pm5 cd5 ct5 : Value}
    {f6 : Addr} {od6 an6 : Option Addr} {sl6 : Array (Option Value)} {oc6 kV6 dc6 pm6 cd6 ct6 : Value}
    {f7 : Addr} {od7 an7 : Option Addr} {sl7 : Array (Option Value)} {oc7 kV7 dc7 pm7 cd7 ct7 : Value}
    {f8 : Addr} {od8 an8 : Option Addr} {sl8 : Array (Option Value)} {oc8 kV8 dc8 pm8 cd8 ct8 : Value}
    {f9 : Addr} {od9 an9 : Option Addr} {sl9 : Array (Option Value)} {oc9 kV9 dc9 pm9 cd9 ct9 : Value}
    {f10 : Addr} {od10 an10 : Option Addr} {sl10 : Array (Option Value)} {oc10 kV10 dc10 pm10 cd10 ct10 : Value}
    {f11 : Addr} {od11 an11 : Option Addr} {sl11 : Array (Option Value)} {oc11 kV11 dc11 pm11 cd11 ct11 : Value}
    {f12 : Addr} {od12 an12 : Option Addr} {sl12 : Array (Option Value)} {oc12 kV12 dc12 pm12 cd12 ct12 : Value}
    {f13 : Addr} {od13 an13 : Option Addr} {sl13 : Array (Option Value)} {oc13 kV13 dc13 pm13 cd13 ct13 : Value}
    {f14 : Addr} {od14 an14 : Option Addr} {sl14 : Array (Option Value)} {oc14 kV14 dc14 pm14 cd14 ct14 : Value}
    {f15 : Addr} {od15 an15 : Option Addr} {sl15 : Array (Option Value)} {oc15 kV15 dc15 pm15 cd15 ct15 : Value}
    {f16 : Addr} {od16 an16 : Option Addr} {sl16 : Array (Option Value)} {oc16 kV16 dc16 pm16 cd16 ct16 : Value}
    {f17 : Addr} {od17 an17 : Option Addr} {sl17 : Array (Option Value)} {oc17 kV17 dc17 pm17 cd17 ct17 : Value}
    {f18 : Addr} {od18 an18 : Option Addr} {sl18 : Array (Option Value)} {oc18 kV18 dc18 pm18 cd18 ct18 : Value}
    {f19 : Addr} {od19 an19 : Option Addr} {sl19 : Array (Option Value)} {oc19 kV19 dc19 pm19 cd19 ct19 : Value}
    {f20 : Addr} {od20 an20 : Option Addr} {sl20 : Array (Option Value)} {oc20 kV20 dc20 pm20 cd20 ct20 : Value}
    {f21 : Addr} {od21 an21 : Option Addr} {sl21 : Array (Option Value)} {oc21 kV21 dc21 pm21 cd21 ct21 : Value}
    {f22 : Addr} {od22 an22 : Option Addr} {sl22 : Array (Option Value)} {oc22 kV22 dc22 pm22 cd22 ct22 : Value}
    {f23 : Addr} {od23 an23 : Option Addr} {sl23 : Array (Option Value)} {oc23 kV23 dc23 pm23 cd23 ct23 : Value}
    {f24 : Addr} {od24 an24 : Option Addr} {sl24 : Array (Option Value)} {oc24 kV24 dc24 pm24 cd24 ct24 : Value}
    {f25 : Addr} {od25 an25 : Option Addr} {sl25 : Array (Option Value)} {oc25 kV25 dc25 pm25 cd25 ct25 : Value}
    {f26 : Addr} {od26 an26 : Option Addr} {sl26 : Array (Option Value)} {oc26 kV26 dc26 pm26 cd26 ct26 : Value}
    {f27 : Addr} {od27 an27 : Option Addr} {sl27 : Array (Option Value)} {oc27 kV27 dc27 pm27 cd27 ct27 : Value}
    {f28 : Addr} {od28 an28 : Option Addr} {sl28 : Array (Option Value)} {oc28 kV28 dc28 pm28 cd28 ct28 : Value}
    {tM : Tok}
    {nmCR qCR : Str} {NCR : Addr} {bsCR : List Value} {snCR : List Str} {subCR : List Value} {abCR : Bool} {colCR : Option Bool} {ddCR : Option Addr} {m0CR m1CR m2CR m3CR m5CR : Option Value}
    {nmCB qCB : Str} {NCB : Addr} {bsCB : List Value} {snCB : List Str} {subCB : List Value} {abCB : Bool} {colCB : Option Bool} {ddCB : Option Addr} {m0CB m1CB m2CB m3CB m5CB : Option Value}
    (a0 : PySem.W.nsIn K mainGlobals "is_int" = some (some (.ref f0)))
    (l0 : K.lookup f0 = some ⟨oc0, od0, .func (PySem.W.fnOf "is_int" "is_int" (defArgs s_is_int) (defBody s_is_int) (defScope s_is_int) .none kV0 dc0 pm0 an0 cd0 ct0), sl0⟩)
    (c0 : PySem.W.codeIn K cd0 "is_int" = true)
    (k0 : PySem.W.keepIn K (.ref f0) = true)
    (a1 : PySem.W.nsIn K mainGlobals "is_number" = some (some (.ref f1)))
    (l1 : K.lookup f1 = some ⟨oc1, od1, .func (PySem.W.fnOf "is_number" "is_number" (defArgs s_is_number) (defBody s_is_number) (defScope s_is_number) .none kV1 dc1 pm1 an1 cd1 ct1), sl1⟩)
    (c1 : PySem.W.codeIn K cd1 "is_number" = true)
    (k1 : PySem.W.keepIn K (.ref f1) = true)
    (a2 : PySem.W.nsIn K mainGlobals "is_list" = some (some (.ref f2)))
    (l2 : K.lookup f2 = some ⟨oc2, od2, .func (PySem.W.fnOf "is_list" "is_list" (defArgs s_is_list) (defBody s_is_list) (defScope s_is_list) .none kV2 dc2 pm2 an2 cd2 ct2), sl2⟩)
    (c2 : PySem.W.codeIn K cd2 "is_list" = true)
    (k2 : PySem.W.keepIn K (.ref f2) = true)
    (a3 : PySem.W.nsIn K mainGlobals "is_set" = some (some (.ref f3)))
    (l3 : K.lookup f3 = some ⟨oc3, od3, .func (PySem.W.fnOf "is_set" "is_set" (defArgs s_is_set) (defBody s_is_set) (defScope s_is_set) .none kV3 dc3 pm3 an3 cd3 ct3), sl3⟩)
    (c3 : PySem.W.codeIn K cd3 "is_set" = true)
    (k3 : PySem.W.keepIn K (.ref f3) = true)
    (a4 : PySem.W.nsIn K mainGlobals "is_pair" = some (some (.ref f4)))
    (l4 : K.lookup f4 = some ⟨oc4, od4, .func (PySem.W.fnOf "is_pair" "is_pair" (defArgs s_is_pair) (defBody s_is_pair) (defScope s_is_pair) .none kV4 dc4 pm4 an4 cd4 ct4), sl4⟩)
    (c4 : PySem.W.codeIn K cd4 "is_pair" = true)
    (k4 : PySem.W.keepIn K (.ref f4) = true)
    (a5 : PySem.W.nsIn K mainGlobals "is_row" = some (some (.ref f5)))
    (l5 : K.lookup f5 = some ⟨oc5, od5, .func (PySem.W.fnOf "is_row" "is_row" (defArgs s_is_row) (defBody s_is_row) (defScope s_is_row) .none kV5 dc5 pm5 an5 cd5 ct5), sl5⟩)
    (c5 : PySem.W.codeIn K cd5 "is_row" = true)
    (k5 : PySem.W.keepIn K (.ref f5) = true)
    (a6 : PySem.W.nsIn K mainGlobals "unlike" = some (some (.ref f6)))
    (l6 : K.lookup f6 = some ⟨oc6, od6, .func (PySem.W.fnOf "unlike" "unlike" (defArgs s_unlike) (defBody s_unlike) (defScope s_unlike) .none kV6 dc6 pm6 an6 cd6 ct6), sl6⟩)
    (c6 : PySem.W.codeIn K cd6 "unlike" = true)
    (k6 : PySem.W.keepIn K (.ref f6) = true)
    (a7 : PySem.W.nsIn K mainGlobals "exchanges" = some (some (.ref f7)))
    (l7 : K.lookup f7 = some ⟨oc7, od7, .func (PySem.W.fnOf "exchanges" "exchanges" (defArgs s_exchanges) (defBody s_exchanges) (defScope s_exchanges) .none kV7 dc7 pm7 an7 cd7 ct7), sl7⟩)
    (c7 : PySem.W.codeIn K cd7 "exchanges" = true)
    (k7 : PySem.W.keepIn K (.ref f7) = true)
    (a8 : PySem.W.nsIn K mainGlobals "_holds_each_once" = some (some (.ref f8)))
    (l8 : K.lookup f8 = some ⟨oc8, od8, .func (PySem.W.fnOf "_holds_each_once" "_holds_each_once" (defArgs s__holds_each_once) (defBody s__holds_each_once) (defScope s__holds_each_once) .none kV8 dc8 pm8 an8 cd8 ct8), sl8⟩)
    (c8 : PySem.W.codeIn K cd8 "_holds_each_once" = true)
    (k8 : PySem.W.keepIn K (.ref f8) = true)
    (a9 : PySem.W.nsIn K mainGlobals "_places" = some (some (.ref f9)))
    (l9 : K.lookup f9 = some ⟨oc9, od9, .func (PySem.W.fnOf "_places" "_places" (defArgs s__places) (defBody s__places) (defScope s__places) .none kV9 dc9 pm9 an9 cd9 ct9), sl9⟩)
    (c9 : PySem.W.codeIn K cd9 "_places" = true)
    (k9 : PySem.W.keepIn K (.ref f9) = true)
    (a10 : PySem.W.nsIn K mainGlobals "_are_pairs" = some (some (.ref f10)))
    (l10 : K.lookup f10 = some ⟨oc10, od10, .func (PySem.W.fnOf "_are_pairs" "_are_pairs" (defArgs s__are_pairs) (defBody s__are_pairs) (defScope s__are_pairs) .none kV10 dc10 pm10 an10 cd10 ct10), sl10⟩)
    (c10 : PySem.W.codeIn K cd10 "_are_pairs" = true)
    (k10 : PySem.W.keepIn K (.ref f10) = true)
    (a11 : PySem.W.nsIn K mainGlobals "_closed" = some (some (.ref f11)))
    (l11 : K.lookup f11 = some ⟨oc11, od11, .func (PySem.W.fnOf "_closed" "_closed" (defArgs s__closed) (defBody s__closed) (defScope s__closed) .none kV11 dc11 pm11 an11 cd11 ct11), sl11⟩)
    (c11 : PySem.W.codeIn K cd11 "_closed" = true)
    (k11 : PySem.W.keepIn K (.ref f11) = true)
    (a12 : PySem.W.nsIn K mainGlobals "_law_pool" = some (some (.ref f12)))
    (l12 : K.lookup f12 = some ⟨oc12, od12, .func (PySem.W.fnOf "_law_pool" "_law_pool" (defArgs s__law_pool) (defBody s__law_pool) (defScope s__law_pool) .none kV12 dc12 pm12 an12 cd12 ct12), sl12⟩)
    (c12 : PySem.W.codeIn K cd12 "_law_pool" = true)
    (k12 : PySem.W.keepIn K (.ref f12) = true)
    (a13 : PySem.W.nsIn K mainGlobals "_law_next" = some (some (.ref f13)))
    (l13 : K.lookup f13 = some ⟨oc13, od13, .func (PySem.W.fnOf "_law_next" "_law_next" (defArgs s__law_next) (defBody s__law_next) (defScope s__law_next) .none kV13 dc13 pm13 an13 cd13 ct13), sl13⟩)
    (c13 : PySem.W.codeIn K cd13 "_law_next" = true)
    (k13 : PySem.W.keepIn K (.ref f13) = true)
    (a14 : PySem.W.nsIn K mainGlobals "_law_subset" = some (some (.ref f14)))
    (l14 : K.lookup f14 = some ⟨oc14, od14, .func (PySem.W.fnOf "_law_subset" "_law_subset" (defArgs s__law_subset) (defBody s__law_subset) (defScope s__law_subset) .none kV14 dc14 pm14 an14 cd14 ct14), sl14⟩)
    (c14 : PySem.W.codeIn K cd14 "_law_subset" = true)
    (k14 : PySem.W.keepIn K (.ref f14) = true)
    (a15 : PySem.W.nsIn K mainGlobals "_law_int" = some (some (.ref f15)))
    (l15 : K.lookup f15 = some ⟨oc15, od15, .func (PySem.W.fnOf "_law_int" "_law_int" (defArgs s__law_int) (defBody s__law_int) (defScope s__law_int) .none kV15 dc15 pm15 an15 cd15 ct15), sl15⟩)
    (c15 : PySem.W.codeIn K cd15 "_law_int" = true)
    (k15 : PySem.W.keepIn K (.ref f15) = true)
    (a16 : PySem.W.nsIn K mainGlobals "_law_aheads" = some (some (.ref f16)))
    (l16 : K.lookup f16 = some ⟨oc16, od16, .func (PySem.W.fnOf "_law_aheads" "_law_aheads" (defArgs s__law_aheads) (defBody s__law_aheads) (defScope s__law_aheads) .none kV16 dc16 pm16 an16 cd16 ct16), sl16⟩)
    (c16 : PySem.W.codeIn K cd16 "_law_aheads" = true)
    (k16 : PySem.W.keepIn K (.ref f16) = true)
    (a17 : PySem.W.nsIn K mainGlobals "_law_ready" = some (some (.ref f17)))
    (l17 : K.lookup f17 = some ⟨oc17, od17, .func (PySem.W.fnOf "_law_ready" "_law_ready" (defArgs s__law_ready) (defBody s__law_ready) (defScope s__law_ready) .none kV17 dc17 pm17 an17 cd17 ct17), sl17⟩)
    (c17 : PySem.W.codeIn K cd17 "_law_ready" = true)
    (k17 : PySem.W.keepIn K (.ref f17) = true)
    (a18 : PySem.W.nsIn K mainGlobals "_law_row" = some (some (.ref f18)))
    (l18 : K.lookup f18 = some ⟨oc18, od18, .func (PySem.W.fnOf "_law_row" "_law_row" (defArgs s__law_row) (defBody s__law_row) (defScope s__law_row) .none kV18 dc18 pm18 an18 cd18 ct18), sl18⟩)
    (c18 : PySem.W.codeIn K cd18 "_law_row" = true)
    (k18 : PySem.W.keepIn K (.ref f18) = true)
    (a19 : PySem.W.nsIn K mainGlobals "_law_unlike" = some (some (.ref f19)))
    (l19 : K.lookup f19 = some ⟨oc19, od19, .func (PySem.W.fnOf "_law_unlike" "_law_unlike" (defArgs s__law_unlike) (defBody s__law_unlike) (defScope s__law_unlike) .none kV19 dc19 pm19 an19 cd19 ct19), sl19⟩)
    (c19 : PySem.W.codeIn K cd19 "_law_unlike" = true)
    (k19 : PySem.W.keepIn K (.ref f19) = true)
    (a20 : PySem.W.nsIn K mainGlobals "_law_walks" = some (some (.ref f20)))
    (l20 : K.lookup f20 = some ⟨oc20, od20, .func (PySem.W.fnOf "_law_walks" "_law_walks" (defArgs s__law_walks) (defBody s__law_walks) (defScope s__law_walks) .none kV20 dc20 pm20 an20 cd20 ct20), sl20⟩)
    (c20 : PySem.W.codeIn K cd20 "_law_walks" = true)
    (k20 : PySem.W.keepIn K (.ref f20) = true)
    (a21 : PySem.W.nsIn K mainGlobals "_law_unlike_bad" = some (some (.ref f21)))
    (l21 : K.lookup f21 = some ⟨oc21, od21, .func (PySem.W.fnOf "_law_unlike_bad" "_law_unlike_bad" (defArgs s__law_unlike_bad) (defBody s__law_unlike_bad) (defScope s__law_unlike_bad) .none kV21 dc21 pm21 an21 cd21 ct21), sl21⟩)
    (c21 : PySem.W.codeIn K cd21 "_law_unlike_bad" = true)
    (k21 : PySem.W.keepIn K (.ref f21) = true)
    (a22 : PySem.W.nsIn K mainGlobals "_law_exchange_bad" = some (some (.ref f22)))
    (l22 : K.lookup f22 = some ⟨oc22, od22, .func (PySem.W.fnOf "_law_exchange_bad" "_law_exchange_bad" (defArgs s__law_exchange_bad) (defBody s__law_exchange_bad) (defScope s__law_exchange_bad) .none kV22 dc22 pm22 an22 cd22 ct22), sl22⟩)
    (c22 : PySem.W.codeIn K cd22 "_law_exchange_bad" = true)
    (k22 : PySem.W.keepIn K (.ref f22) = true)
    (a23 : PySem.W.nsIn K mainGlobals "_law_refusals" = some (some (.ref f23)))
    (l23 : K.lookup f23 = some ⟨oc23, od23, .func (PySem.W.fnOf "_law_refusals" "_law_refusals" (defArgs s__law_refusals) (defBody s__law_refusals) (defScope s__law_refusals) .none kV23 dc23 pm23 an23 cd23 ct23), sl23⟩)
    (c23 : PySem.W.codeIn K cd23 "_law_refusals" = true)
    (k23 : PySem.W.keepIn K (.ref f23) = true)
    (a24 : PySem.W.nsIn K mainGlobals "law" = some (some (.ref f24)))
    (l24 : K.lookup f24 = some ⟨oc24, od24, .func (PySem.W.fnOf "law" "law" (defArgs s_law) (defBody s_law) (defScope s_law) .none kV24 dc24 pm24 an24 cd24 ct24), sl24⟩)
    (c24 : PySem.W.codeIn K cd24 "law" = true)
    (k24 : PySem.W.keepIn K (.ref f24) = true)
    (gCD : PySem.W.nsIn K mainGlobals "DeepError" = some (some (.ref CD)))
    (a25 : PySem.W.findIn K (.ref CD) "__init__" = some (some (.ref f25)))
    (l25 : K.lookup f25 = some ⟨oc25, od25, .func (PySem.W.fnOf "__init__" "DeepError.__init__" (defArgs s_DeepError___init__) (defBody s_DeepError___init__) (defScope s_DeepError___init__) .none kV25 dc25 pm25 an25 cd25 ct25), sl25⟩)
    (c25 : PySem.W.codeIn K cd25 "DeepError.__init__" = true)
    (k25 : PySem.W.keepIn K (.ref f25) = true)
    (gCR : PySem.W.nsIn K mainGlobals "BadRow" = some (some (.ref CR)))
    (a26 : PySem.W.findIn K (.ref CR) "__init__" = some (some (.ref f26)))
    (l26 : K.lookup f26 = some ⟨oc26, od26, .func (PySem.W.fnOf "__init__" "BadRow.__init__" (defArgs s_BadRow___init__) (defBody s_BadRow___init__) (defScope s_BadRow___init__) .none kV26 dc26 pm26 an26 cd26 ct26), sl26⟩)
    (c26 : PySem.W.codeIn K cd26 "BadRow.__init__" = true)
    (k26 : PySem.W.keepIn K (.ref f26) = true)
    (gCB : PySem.W.nsIn K mainGlobals "BadOrder" = some (some (.ref CB)))
    (a27 : PySem.W.findIn K (.ref CB) "__init__" = some (some (.ref f27)))
    (l27 : K.lookup f27 = some ⟨oc27, od27, .func (PySem.W.fnOf "__init__" "BadOrder.__init__" (defArgs s_BadOrder___init__) (defBody s_BadOrder___init__) (defScope s_BadOrder___init__) .none kV27 dc27 pm27 an27 cd27 ct27), sl27⟩)
    (c27 : PySem.W.codeIn K cd27 "BadOrder.__init__" = true)
    (k27 : PySem.W.keepIn K (.ref f27) = true)
    (gCO : PySem.W.nsIn K mainGlobals "Order" = some (some (.ref CO)))
    (a28 : PySem.W.findIn K (.ref CO) "__init__" = some (some (.ref f28)))
    (l28 : K.lookup f28 = some ⟨oc28, od28, .func (PySem.W.fnOf "__init__" "Order.__init__" (defArgs s_Order___init__) (defBody s_Order___init__) (defScope s_Order___init__) .none kV28 dc28 pm28 an28 cd28 ct28), sl28⟩)
    (c28 : PySem.W.codeIn K cd28 "Order.__init__" = true)
    (k28 : PySem.W.keepIn K (.ref f28) = true)
    (b_len : PySem.W.nsIn K mainGlobals "len" = some none)
    (b_set : PySem.W.nsIn K mainGlobals "set" = some none)
    (b_all : PySem.W.nsIn K mainGlobals "all" = some none)
    (b_any : PySem.W.nsIn K mainGlobals "any" = some none)
    (b_sum : PySem.W.nsIn K mainGlobals "sum" = some none)
    (b_min : PySem.W.nsIn K mainGlobals "min" = some none)
    (b_max : PySem.W.nsIn K mainGlobals "max" = some none)
    (b_isinstance : PySem.W.nsIn K mainGlobals "isinstance" = some none)
    (b_int : PySem.W.nsIn K mainGlobals "int" = some none)
    (b_bool : PySem.W.nsIn K mainGlobals "bool" = some none)
    (b_list : PySem.W.nsIn K mainGlobals "list" = some none)
    (b_tuple : PySem.W.nsIn K mainGlobals "tuple" = some none)
    (b_range : PySem.W.nsIn K mainGlobals "range" = some none)
    (b_enumerate : PySem.W.nsIn K mainGlobals "enumerate" = some none)
    (gM : PySem.W.nsIn K mainGlobals "MOST_NUMBERS" = some (some (.int 16 tM)))
    (pgO : PySem.W.plainGet K CO Str.empty = true)
    (hdO : PySem.W.hasDictIn K CO = true)
    (poO : PySem.W.plainOver K CO = true)
    (saO : PySem.W.findIn K (.ref CO) "__setattr__" = some (some (.builtin "object.__setattr__")))
    (nOsize : PySem.W.findIn K (.ref CO) "size" = some none)
    (nOpairs : PySem.W.findIn K (.ref CO) "pairs" = some none)
    (nO_behind : PySem.W.findIn K (.ref CO) "_behind" = some none)
    (nO_ahead : PySem.W.findIn K (.ref CO) "_ahead" = some none)
    (mkO : PySem.W.makesIn K CO = true)
    (kcO : PySem.W.keepIn K (.ref CO) = true)
    (isO : PySem.W.isFn K (.ref f28) = true)
    (rdD : PySem.W.readsIn K CD (.type "type") = true)
    (gaD : PySem.W.specialIn K (.ref CD) "__getattribute__" = some (some (.builtin "type.__getattribute__")))
    (cvD : PySem.W.findCls K (.ref CD) (.type "type") "__init__" = some (.val (.ref f25)))
    (xCR : K.lookup CR = some (excClassObj nmCR qCR CR NCR bsCR [.ref CD, .type "Exception", .type "BaseException", .type "object"] true snCR subCR abCR colCR ddCR m0CR m1CR m2CR m3CR m5CR "Exception.__new__"))
    (saCR : PySem.W.findIn K (.ref CR) "__setattr__" = some (some (.builtin "object.__setattr__")))
    (gaCR : PySem.W.findIn K (.ref CR) "__getattribute__" = some (some (.builtin "BaseException.__getattribute__")))
    (ggCR : PySem.W.findIn K (.ref CR) "__getattr__" = some none)
    (nfCR : PySem.W.findIn K (.ref CR) "place" = some none)
    (ntCR : PySem.W.findIn K (.ref CR) "_told" = some none)
    (tiCR : PySem.W.typeIn K (.ref f26) = some (.type "function"))
    (kcCR : PySem.W.keepIn K (.ref CR) = true)
    (ecCR : PySem.W.subIn K (.ref CR) (.type "BaseException") = some true)
    (tcCR : PySem.W.typeIn K (.ref CR) = some (.type "type"))
    (hcCR : PySem.W.hasDictIn K CR = true)
    (icCR : PySem.W.isClsIn K CR = true)
    (scCR : PySem.W.subIn K (.ref CR) (.ref CR) = some true)
    (xCB : K.lookup CB = some (excClassObj nmCB qCB CB NCB bsCB [.ref CD, .type "Exception", .type "BaseException", .type "object"] true snCB subCB abCB colCB ddCB m0CB m1CB m2CB m3CB m5CB "Exception.__new__"))
    (saCB : PySem.W.findIn K (.ref CB) "__setattr__" = some (some (.builtin "object.__setattr__")))
    (gaCB : PySem.W.findIn K (.ref CB) "__getattribute__" = some (some (.builtin "BaseException.__getattribute__")))
    (ggCB : PySem.W.findIn K (.ref CB) "__getattr__" = some none)
    (nfCB : PySem.W.findIn K (.ref CB) "name" = some none)
    (ntCB : PySem.W.findIn K (.ref CB) "_told" = some none)
    (tiCB : PySem.W.typeIn K (.ref f27) = some (.type "function"))
    (kcCB : PySem.W.keepIn K (.ref CB) = true)
    (ecCB : PySem.W.subIn K (.ref CB) (.type "BaseException") = some true)
    (tcCB : PySem.W.typeIn K (.ref CB) = some (.type "type"))
    (hcCB : PySem.W.hasDictIn K CB = true)
    (icCB : PySem.W.isClsIn K CB = true)
    (scCB : PySem.W.subIn K (.ref CB) (.ref CB) = some true)
    : ∃ fd : FuncData, (∀ (s : Shared) (v : Value), BindsTo s fd ⟨[v], []⟩ [("script", v)]) ∧ ∀ base : Heap, K.In base → base.Ns mainGlobals mg → FnOk l.prog w K mg base CX0 8 fa fd ["script"] (spLaw K) := by
  have e := hfa.symm.trans (PySem.W.mg_of X G a24)
  cases e
  have T : Txt K mg CO := ⟨PySem.W.mg_none_of X G b_len, PySem.W.mg_none_of X G b_set, PySem.W.mg_none_of X G b_all, PySem.W.mg_none_of X G b_any, PySem.W.mg_none_of X G b_sum, PySem.W.mg_none_of X G b_min, PySem.W.mg_none_of X G b_max, PySem.W.mg_none_of X G b_isinstance, PySem.W.mg_none_of X G b_int, PySem.W.mg_none_of X G b_bool, PySem.W.mg_none_of X G b_list, PySem.W.mg_none_of X G b_tuple, PySem.W.mg_none_of X G b_range, PySem.W.mg_none_of X G b_enumerate, ⟨pgO, hdO, poO, saO⟩, nOsize, nOpairs, nO_behind, nO_ahead, PySem.W.mg_of X G gCO, ⟨tM, PySem.W.mg_of X G gM⟩⟩
  have F0 := fun_mk (st := s_is_int) l0 c0 k0
  have B0 := F0.binds (ps := ["value"]) fun _ _ _ _ _ _ us hl => match us, hl with | [_], _ => rfl
  have F1 := fun_mk (st := s_is_number) l1 c1 k1
  have B1 := F1.binds (ps := ["value", "low", "high"]) fun _ _ _ _ _ _ us hl => match us, hl with | [_, _, _], _ => rfl
  have F2 := fun_mk (st := s_is_list) l2 c2 k2
  have B2 := F2.binds (ps := ["value"]) fun _ _ _ _ _ _ us hl => match us, hl with | [_], _ => rfl
  have F3 := fun_mk (st := s_is_set) l3 c3 k3
  have B3 := F3.binds (ps := ["value", "many"]) fun _ _ _ _ _ _ us hl => match us, hl with | [_, _], _ => rfl
  have F4 := fun_mk (st := s_is_pair) l4 c4 k4
  have B4 := F4.binds (ps := ["value", "many"]) fun _ _ _ _ _ _ us hl => match us, hl with | [_, _], _ => rfl
  have F5 := fun_mk (st := s_is_row) l5 c5 k5
  have B5 := F5.binds (ps := ["order", "row"]) fun _ _ _ _ _ _ us hl => match us, hl with | [_, _], _ => rfl
  have F6 := fun_mk (st := s_unlike) l6 c6 k6
  have B6 := F6.binds (ps := ["row", "other"]) fun _ _ _ _ _ _ us hl => match us, hl with | [_, _], _ => rfl
  have F7 := fun_mk (st := s_exchanges) l7 c7 k7
  have B7 := F7.binds (ps := ["order", "row", "other"]) fun _ _ _ _ _ _ us hl => match us, hl with | [_, _, _], _ => rfl
  have F8 := fun_mk (st := s__holds_each_once) l8 c8 k8
  have B8 := F8.binds (ps := ["row"]) fun _ _ _ _ _ _ us hl => match us, hl with | [_], _ => rfl
  have F9 := fun_mk (st := s__places) l9 c9 k9
  have B9 := F9.binds (ps := ["row", "other"]) fun _ _ _ _ _ _ us hl => match us, hl with | [_, _], _ => rfl
  have F10 := fun_mk (st := s__are_pairs) l10 c10 k10
  have B10 := F10.binds (ps := ["value", "size"]) fun _ _ _ _ _ _ us hl => match us, hl with | [_, _], _ => rfl
  have F11 := fun_mk (st := s__closed) l11 c11 k11
  have B11 := F11.binds (ps := ["size", "pairs"]) fun _ _ _ _ _ _ us hl => match us, hl with | [_, _], _ => rfl
  have F12 := fun_mk (st := s__law_pool) l12 c12 k12
  have B12 := F12.binds (ps := ["script"]) fun _ _ _ _ _ _ us hl => match us, hl with | [_], _ => rfl
  have F13 := fun_mk (st := s__law_next) l13 c13 k13
  have B13 := F13.binds (ps := ["pool", "many"]) fun _ _ _ _ _ _ us hl => match us, hl with | [_, _], _ => rfl
  have F14 := fun_mk (st := s__law_subset) l14 c14 k14
  have B14 := F14.binds (ps := ["one", "other"]) fun _ _ _ _ _ _ us hl => match us, hl with | [_, _], _ => rfl
  have F15 := fun_mk (st := s__law_int) l15 c15 k15
  have B15 := F15.binds (ps := ["value", "due"]) fun _ _ _ _ _ _ us hl => match us, hl with | [_, _], _ => rfl
  have F16 := fun_mk (st := s__law_aheads) l16 c16 k16
  have B16 := F16.binds (ps := ["size", "pairs"]) fun _ _ _ _ _ _ us hl => match us, hl with | [_, _], _ => rfl
  have F17 := fun_mk (st := s__law_ready) l17 c17 k17
  have B17 := F17.binds (ps := ["aheads", "done"]) fun _ _ _ _ _ _ us hl => match us, hl with | [_, _], _ => rfl
  have F18 := fun_mk (st := s__law_row) l18 c18 k18
  have B18 := F18.binds (ps := ["pool", "aheads", "last"]) fun _ _ _ _ _ _ us hl => match us, hl with | [_, _, _], _ => rfl
  have F19 := fun_mk (st := s__law_unlike) l19 c19 k19
  have B19 := F19.binds (ps := ["row", "other"]) fun _ _ _ _ _ _ us hl => match us, hl with | [_, _], _ => rfl
  have F20 := fun_mk (st := s__law_walks) l20 c20 k20
  have B20 := F20.binds (ps := ["order", "aheads", "row", "other"]) fun _ _ _ _ _ _ us hl => match us, hl with | [_, _, _, _], _ => rfl
  have F21 := fun_mk (st := s__law_unlike_bad) l21 c21 k21
  have B21 := F21.binds (ps := ["row", "other"]) fun _ _ _ _ _ _ us hl => match us, hl with | [_, _], _ => rfl
  have F22 := fun_mk (st := s__law_exchange_bad) l22 c22 k22
  have B22 := F22.binds (ps := ["order", "row", "other", "due"]) fun _ _ _ _ _ _ us hl => match us, hl with | [_, _, _, _], _ => rfl
  have F23 := fun_mk (st := s__law_refusals) l23 c23 k23
  have B23 := F23.binds (ps := ["order", "aheads", "row", "size"]) fun _ _ _ _ _ _ us hl => match us, hl with | [_, _, _, _], _ => rfl
  have F24 := fun_mk (st := s_law) l24 c24 k24
  have F25 := fun_mk (st := s_DeepError___init__) l25 c25 k25
  have B25 := F25.binds (ps := ["self", "told"]) fun _ _ _ _ _ _ us hl => match us, hl with | [_, _], _ => rfl
  have F26 := fun_mk (st := s_BadRow___init__) l26 c26 k26
  have B26 := F26.binds (ps := ["self", "place"]) fun _ _ _ _ _ _ us hl => match us, hl with | [_, _], _ => rfl
  have F27 := fun_mk (st := s_BadOrder___init__) l27 c27 k27
  have B27 := F27.binds (ps := ["self", "name"]) fun _ _ _ _ _ _ us hl => match us, hl with | [_, _], _ => rfl
  have F28 := fun_mk (st := s_Order___init__) l28 c28 k28
  have B28 := F28.binds (ps := ["self", "size", "pairs"]) fun _ _ _ _ _ _ us hl => match us, hl with | [_, _, _], _ => rfl
  have ECR : ErC K CR := ⟨⟨nmCR, qCR, NCR, bsCR, [CD], snCR, subCR, abCR, colCR, ddCR, m0CR, m1CR, m2CR, m3CR, m5CR, xCR⟩, saCR, ecCR, tcCR, kcCR⟩
  have ECB : ErC K CB := ⟨⟨nmCB, qCB, NCB, bsCB, [CD], snCB, subCB, abCB, colCB, ddCB, m0CB, m1CB, m2CB, m3CB, m5CB, xCB⟩, saCB, ecCB, tcCB, kcCB⟩
  refine ⟨PySem.W.fnOf "law" "law" (defArgs s_law) (defBody s_law) (defScope s_law) .none kV24 dc24 pm24 an24 cd24 ct24, fun s v => .of_eq rfl, fun base _ _ => ?_⟩
  have cvd : ClX.CVal K CD (.type "type") "__init__" (.ref f25) (.ref f25) := ⟨cvD, rfl⟩
  have d_BadRow : ErD l.prog w K mg base 2 "BadRow" CR "place" := ⟨ECR, ⟨f26, _, _, a26, tiCR, ok_badrow F26 ECR ntCR nfCR F25 ⟨rdD, gaD⟩ cvd k25 B25 (PySem.W.mg_of X G gCD), B26⟩, PySem.W.mg_of X G gCR, ⟨gaCR, ggCR, ecCR, hcCR⟩, nfCR, exm_yes ecCR icCR tcCR scCR⟩
  have d_BadOrder : ErD l.prog w K mg base 2 "BadOrder" CB "name" := ⟨ECB, ⟨f27, _, _, a27, tiCB, ok_badorder F27 ECB ntCB nfCB F25 ⟨rdD, gaD⟩ cvd k25 B25 (PySem.W.mg_of X G gCD), B27⟩, PySem.W.mg_of X G gCB, ⟨gaCB, ggCB, ecCB, hcCB⟩, nfCB, exm_yes ecCB icCB tcCB scCB⟩
  have d_DeepError : GlD mg "DeepError" CD := ⟨PySem.W.mg_of X G gCD⟩
  have c_is_int : CalD l.prog w K mg base CX0 1 "is_int" spIsInt := ⟨⟨_, _, _, ok_is_int F0 T, PySem.W.mg_of X G a0, k0, B0⟩⟩
  have c_is_number : CalD l.prog w K mg base CX0 2 "is_number" spIsNumber := ⟨⟨_, _, _, ok_is_number F1 T c_is_int, PySem.W.mg_of X G a1, k1, B1⟩⟩
  have c_is_list : CalD l.prog w K mg base CX0 1 "is_list" spIsList := ⟨⟨_, _, _, ok_is_list F2 T, PySem.W.mg_of X G a2, k2, B2⟩⟩
  have c_is_set : CalD l.prog w K mg base CX0 3 "is_set" spIsSet := ⟨⟨_, _, _, ok_is_set F3 T c_is_list c_is_number, PySem.W.mg_of X G a3, k3, B3⟩⟩
  have c_is_pair : CalD l.prog w K mg base CX0 3 "is_pair" spIsPair := ⟨⟨_, _, _, ok_is_pair F4 T c_is_list c_is_number, PySem.W.mg_of X G a4, k4, B4⟩⟩
  have c__holds_each_once : CalD l.prog w K mg base CX0 4 "_holds_each_once" spEach := ⟨⟨_, _, _, ok_each F8 T c_is_list c_is_set, PySem.W.mg_of X G a8, k8, B8⟩⟩
  have c_is_row : CalD l.prog w K mg base CX0 4 "is_row" (spIsRow CO) := ⟨⟨_, _, _, ok_is_row F5 T c_is_list c_is_set, PySem.W.mg_of X G a5, k5, B5⟩⟩
  have c__places : CalD l.prog w K mg base CX0 1 "_places" spPlaces := ⟨⟨_, _, _, ok_places F9 T, PySem.W.mg_of X G a9, k9, B9⟩⟩
  have c_unlike : CalD l.prog w K mg base (L2.CX l.prog w) 5 "unlike" (spUnlike CR) := ⟨⟨_, _, _, ok_unlike F6 T c__holds_each_once c__places d_BadRow, PySem.W.mg_of X G a6, k6, B6⟩⟩
  have c_exchanges : CalD l.prog w K mg base (L2.CX l.prog w) 5 "exchanges" (spExch CO CR) := ⟨⟨_, _, _, ok_exchanges F7 T c_is_row c__places d_BadRow, PySem.W.mg_of X G a7, k7, B7⟩⟩
  have c__are_pairs : CalD l.prog w K mg base CX0 4 "_are_pairs" spArePairs := ⟨⟨_, _, _, ok_are_pairs F10 T c_is_list c_is_pair, PySem.W.mg_of X G a10, k10, B10⟩⟩
  have c__closed : CalD l.prog w K mg base CX0 1 "_closed" spClosed := ⟨⟨_, _, _, ok_closed F11 T, PySem.W.mg_of X G a11, k11, B11⟩⟩
  have c__law_pool : CalD l.prog w K mg base CX0 1 "_law_pool" (spPool K) := ⟨⟨_, _, _, ok_law_pool F12 T, PySem.W.mg_of X G a12, k12, B12⟩⟩
  have c__law_next : CalD l.prog w K mg base CX0 1 "_law_next" spNext := ⟨⟨_, _, _, ok_law_next F13 T, PySem.W.mg_of X G a13, k13, B13⟩⟩
  have c__law_subset : CalD l.prog w K mg base CX0 1 "_law_subset" spSubset := ⟨⟨_, _, _, ok_law_subset F14 T, PySem.W.mg_of X G a14, k14, B14⟩⟩
  have c__law_int : CalD l.prog w K mg base CX0 1 "_law_int" spLInt := ⟨⟨_, _, _, ok_law_int F15 T, PySem.W.mg_of X G a15, k15, B15⟩⟩
  have c__law_aheads : CalD l.prog w K mg base CX0 1 "_law_aheads" spAheads := ⟨⟨_, _, _, ok_law_aheads F16 T, PySem.W.mg_of X G a16, k16, B16⟩⟩
  have c__law_ready : CalD l.prog w K mg base CX0 2 "_law_ready" spReady := ⟨⟨_, _, _, ok_law_ready F17 T c__law_subset, PySem.W.mg_of X G a17, k17, B17⟩⟩
  have c__law_row : CalD l.prog w K mg base CX0 3 "_law_row" spLRow := ⟨⟨_, _, _, ok_law_row F18 T c__law_ready c__law_next, PySem.W.mg_of X G a18, k18, B18⟩⟩
  have c__law_unlike : CalD l.prog w K mg base CX0 1 "_law_unlike" spLUnlike := ⟨⟨_, _, _, ok_law_unlike F19 T, PySem.W.mg_of X G a19, k19, B19⟩⟩
  have c__law_walks : CalD l.prog w K mg base CX0 6 "_law_walks" (spWalks CO) := ⟨⟨_, _, _, ok_law_walks F20 T c__law_unlike c__law_int c_unlike c_exchanges, PySem.W.mg_of X G a20, k20, B20⟩⟩
  have c__law_unlike_bad : CalD l.prog w K mg base CX0 6 "_law_unlike_bad" spUnlikeBad := ⟨⟨_, _, _, ok_law_unlike_bad F21 T c__law_int c_unlike d_BadRow d_DeepError, PySem.W.mg_of X G a21, k21, B21⟩⟩
  have c__law_exchange_bad : CalD l.prog w K mg base CX0 6 "_law_exchange_bad" (spExchBad CO) := ⟨⟨_, _, _, ok_law_exchange_bad F22 T c__law_int c_exchanges d_BadRow d_DeepError, PySem.W.mg_of X G a22, k22, B22⟩⟩
  have c__law_refusals : CalD l.prog w K mg base CX0 7 "_law_refusals" (spRefusals CO) := ⟨⟨_, _, _, ok_law_refusals F23 T c__law_unlike_bad c__law_exchange_bad, PySem.W.mg_of X G a23, k23, B23⟩⟩
  have c_Order : MakD l.prog w K mg base (L2.CX l.prog w) 5 "Order" CO (spOrder CO) := ⟨⟨_, _, _, ⟨mkO, a28, isO, kcO⟩, ok_order F28 T c_is_number c__are_pairs c__closed d_BadOrder, PySem.W.mg_of X G gCO, B28⟩⟩
  exact ok_law F24 T c__law_pool c__law_next c__law_aheads c_Order c__law_row c__law_walks c__law_refusals
theorem walk {l : PySem.W.OpenLaw} {q : Program} {loose : List Str} {XP : (Str → Option Value) → Heap → Prop} {YP : World → Heap → Prop} {d : DefRec} {K : Params → PySem.W.Frag} (hn : l.most = some 63) (hdf : d.params.defaults = [])
    (hY : ∀ (w : World) (h : Heap), YP w h → (K w.params).In h)
    (F : ∀ (w : World) (mg : Str → Option Value) (fa : Addr) (h : Heap), (K w.params).In h → h.Ns mainGlobals mg → mg d.name = some (.ref fa) →
      ∃ fd : FuncData, (∀ (s : Shared) (u : Value), BindsTo s fd ⟨[u], []⟩ [("script", u)]) ∧ ∀ base : Heap, (K w.params).In base → base.Ns mainGlobals mg → FnOk l.prog w (K w.params) mg base CX0 8 fa fd ["script"] (spLaw (K w.params))) :
    PySem.W.WalkO q loose XP YP l.row.toRowW d [] (fun f vs => PySem.call f vs) :=
  L2.walk_of (n := 63) (k := 8) (x := "script") (CX := fun _ => CX0) (sp := fun w => spLaw (K w.params)) hn (by decide) hdf ⟨rfl, by decide, by decide⟩ hY F (fun _ _ a ns hl _ hS => ⟨a, ns, rfl, hS, hl, fun _ => rfl⟩) fun _ _ _ _ _ z => z
end D15
open PySem PySem.W PyProof.Rows
set_option maxRecDepth 100000 in
set_option maxHeartbeats 0 in
theorem PySem.Challenge.cw_deeplooks_k15_exchanges_holds : PySem.Challenge.rw_deeplooks_k15_exchanges.Holds := by
  w_on; o_law; k_head; (case hw => w_witness2)
  k_fill
  refine D15.walk (l := PySem.Challenge.rw_deeplooks_k15_exchanges) rfl rfl (fun w h Y => PySem.W.kIn_of Y) ?F
  case F =>
    intro w mg fa h KX G hmg
    refine' D15.all_mk KX G hmg ?a0 ?l0 ?c0 ?k0 ?a1 ?l1 ?c1 ?k1 ?a2 ?l2 ?c2 ?k2 ?a3 ?l3 ?c3 ?k3 ?a4 ?l4 ?c4 ?k4 ?a5 ?l5 ?c5 ?k5 ?a6 ?l6 ?c6 ?k6 ?a7 ?l7 ?c7 ?k7 ?a8 ?l8 ?c8 ?k8 ?a9 ?l9 ?c9 ?k9 ?a10 ?l10 ?c10 ?k10 ?a11 ?l11 ?c11 ?k11 ?a12 ?l12 ?c12 ?k12 ?a13 ?l13 ?c13 ?k13 ?a14 ?l14 ?c14 ?k14 ?a15 ?l15 ?c15 ?k15 ?a16 ?l16 ?c16 ?k16 ?a17 ?l17 ?c17 ?k17 ?a18 ?l18 ?c18 ?k18 ?a19 ?l19 ?c19 ?k19 ?a20 ?l20 ?c20 ?k20 ?a21 ?l21 ?c21 ?k21 ?a22 ?l22 ?c22 ?k22 ?a23 ?l23 ?c23 ?k23 ?a24 ?l24 ?c24 ?k24 ?gCD ?a25 ?l25 ?c25 ?k25 ?gCR ?a26 ?l26 ?c26 ?k26 ?gCB ?a27 ?l27 ?c27 ?k27 ?gCO ?a28 ?l28 ?c28 ?k28 ?b_len ?b_set ?b_all ?b_any ?b_sum ?b_min ?b_max ?b_isinstance ?b_int ?b_bool ?b_list ?b_tuple ?b_range ?b_enumerate ?gM ?pgO ?hdO ?poO ?saO ?nOsize ?nOpairs ?nO_behind ?nO_ahead ?mkO ?kcO ?isO ?rdD ?gaD ?cvD ?xCR ?saCR ?gaCR ?ggCR ?nfCR ?ntCR ?tiCR ?kcCR ?ecCR ?tcCR ?hcCR ?icCR ?scCR ?xCB ?saCB ?gaCB ?ggCB ?nfCB ?ntCB ?tiCB ?kcCB ?ecCB ?tcCB ?hcCB ?icCB ?scCB
    (case a0 => k_is)
    (case l0 => k_is)
    (case c0 => k_is)
    (case k0 => k_is)
    (case a1 => k_is)
    (case l1 => k_is)
    (case c1 => k_is)
    (case k1 => k_is)
    (case a2 => k_is)
    (case l2 => k_is)
    (case c2 => k_is)
    (case k2 => k_is)
    (case a3 => k_is)
    (case l3 => k_is)
    (case c3 => k_is)
    (case k3 => k_is)
    (case a4 => k_is)
    (case l4 => k_is)
    (case c4 => k_is)
    (case k4 => k_is)
    (case a5 => k_is)
    (case l5 => k_is)
    (case c5 => k_is)
    (case k5 => k_is)
    (case a6 => k_is)
    (case l6 => k_is)
    (case c6 => k_is)
    (case k6 => k_is)
    (case a7 => k_is)
    (case l7 => k_is)
    (case c7 => k_is)
    (case k7 => k_is)
    (case a8 => k_is)
    (case l8 => k_is)
    (case c8 => k_is)
    (case k8 => k_is)
    (case a9 => k_is)
    (case l9 => k_is)
    (case c9 => k_is)
    (case k9 => k_is)
    (case a10 => k_is)
    (case l10 => k_is)
    (case c10 => k_is)
    (case k10 => k_is)
    (case a11 => k_is)
    (case l11 => k_is)
    (case c11 => k_is)
    (case k11 => k_is)
    (case a12 => k_is)
    (case l12 => k_is)
    (case c12 => k_is)
    (case k12 => k_is)
    (case a13 => k_is)
    (case l13 => k_is)
    (case c13 => k_is)
    (case k13 => k_is)
    (case a14 => k_is)
    (case l14 => k_is)
    (case c14 => k_is)
    (case k14 => k_is)
    (case a15 => k_is)
    (case l15 => k_is)
    (case c15 => k_is)
    (case k15 => k_is)
    (case a16 => k_is)
    (case l16 => k_is)
    (case c16 => k_is)
    (case k16 => k_is)
    (case a17 => k_is)
    (case l17 => k_is)
    (case c17 => k_is)
    (case k17 => k_is)
    (case a18 => k_is)
    (case l18 => k_is)
    (case c18 => k_is)
    (case k18 => k_is)
    (case a19 => k_is)
    (case l19 => k_is)
    (case c19 => k_is)
    (case k19 => k_is)
    (case a20 => k_is)
    (case l20 => k_is)
    (case c20 => k_is)
    (case k20 => k_is)
    (case a21 => k_is)
    (case l21 => k_is)
    (case c21 => k_is)
    (case k21 => k_is)
    (case a22 => k_is)
    (case l22 => k_is)
    (case c22 => k_is)
    (case k22 => k_is)
    (case a23 => k_is)
    (case l23 => k_is)
    (case c23 => k_is)
    (case k23 => k_is)
    (case a24 => k_is)
    (case l24 => k_is)
    (case c24 => k_is)
    (case k24 => k_is)
    (case gCD => k_is)
    (case a25 => k_is)
    (case l25 => k_is)
    (case c25 => k_is)
    (case k25 => k_is)
    (case gCR => k_is)
    (case a26 => k_is)
    (case l26 => k_is)
    (case c26 => k_is)
    (case k26 => k_is)
    (case gCB => k_is)
    (case a27 => k_is)
    (case l27 => k_is)
    (case c27 => k_is)
    (case k27 => k_is)
    (case gCO => k_is)
    (case a28 => k_is)
    (case l28 => k_is)
    (case c28 => k_is)
    (case k28 => k_is)
    (case b_len => k_is)
    (case b_set => k_is)
    (case b_all => k_is)
    (case b_any => k_is)
    (case b_sum => k_is)
    (case b_min => k_is)
    (case b_max => k_is)
    (case b_isinstance => k_is)
    (case b_int => k_is)
    (case b_bool => k_is)
    (case b_list => k_is)
    (case b_tuple => k_is)
    (case b_range => k_is)
    (case b_enumerate => k_is)
    (case gM => k_is)
    (case pgO => k_is)
    (case hdO => k_is)
    (case poO => k_is)
    (case saO => k_is)
    (case nOsize => k_is)
    (case nOpairs => k_is)
    (case nO_behind => k_is)
    (case nO_ahead => k_is)
    (case mkO => k_is)
    (case kcO => k_is)
    (case isO => k_is)
    (case rdD => k_is)
    (case gaD => k_is)
    (case cvD => k_is)
    (case xCR => k_is)
    (case saCR => k_is)
    (case gaCR => k_is)
    (case ggCR => k_is)
    (case nfCR => k_is)
    (case ntCR => k_is)
    (case tiCR => k_is)
    (case kcCR => k_is)
    (case ecCR => k_is)
    (case tcCR => k_is)
    (case hcCR => k_is)
    (case icCR => k_is)
    (case scCR => first | rfl | k_is)
    (case xCB => k_is)
    (case saCB => k_is)
    (case gaCB => k_is)
    (case ggCB => k_is)
    (case nfCB => k_is)
    (case ntCB => k_is)
    (case tiCB => k_is)
    (case kcCB => k_is)
    (case ecCB => k_is)
    (case tcCB => k_is)
    (case hcCB => k_is)
    (case icCB => k_is)
    (case scCB => first | rfl | k_is)
